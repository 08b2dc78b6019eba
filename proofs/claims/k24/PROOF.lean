import PyProof.Rows.All
import Wide.All
import OpenK.AllK
import Wide.FinOn
import Lean
import PyProof.EqAt
import PyProof.EqKinds
import PyProof.TupleCall
import KE.KSortTup
import PyProof.Rows.CountFlat
import PyProof.SliceStr2
import PySem.Challenge.RW_hearsay_k24_alike
set_option Elab.async false
set_option linter.all false
set_option maxRecDepth 100000
namespace L2
open PySem PySem.Spec PyProof.Rows
noncomputable abbrev Key := Sum Int Str
noncomputable def keyIs : Key → Value → Bool
  | .inl k, v => Value.isInt k v
  | .inr x, v => Value.isStrOf x v
noncomputable def keyH (w : World) : Key → Int
  | .inl k => hashInt k
  | .inr x => hashStr w x
theorem keyIs_shape : ∀ {k : Key} {v : Value}, keyIs k v = true → (∃ i t, k = Sum.inl i ∧ v = Value.int i t) ∨ (∃ x t, k = Sum.inr x ∧ v = Value.str x t)
  | .inl i, v, h => by
    obtain ⟨t, e⟩ := Value.isInt_shape (k := i) (v := v) h
    exact .inl ⟨i, t, rfl, e⟩
  | .inr x, v, h => by
    obtain ⟨t, e⟩ := Value.isStrOf_shape (x := x) (v := v) h
    exact .inr ⟨x, t, rfl, e⟩
theorem keyIs_int (i : Int) (t : Tok) : keyIs (.inl i) (.int i t) = true := by simp [keyIs, Value.isInt]
theorem keyIs_str (x : Str) (t : Tok) : keyIs (.inr x) (.str x t) = true := by simp [keyIs, Value.isStrOf]
theorem key_ll (a b : Int) : decide ((Sum.inl a : Key) = Sum.inl b) = (a == b) := by
  by_cases e : a = b
  · subst e; simp
  · have h : ¬ (Sum.inl a : Key) = Sum.inl b := fun q => e (Sum.inl.inj q)
    rw [decide_eq_false h]
    exact (beq_eq_false_iff_ne.mpr e).symm
theorem key_rr (a b : Str) : decide ((Sum.inr a : Key) = Sum.inr b) = decide (a = b) := by
  by_cases e : a = b
  · subst e; simp
  · have h : ¬ (Sum.inr a : Key) = Sum.inr b := fun q => e (Sum.inr.inj q)
    rw [decide_eq_false h, decide_eq_false e]
theorem key_lr (a : Int) (b : Str) : decide ((Sum.inl a : Key) = Sum.inr b) = false := decide_eq_false (fun q => nomatch q)
theorem key_rl (a : Str) (b : Int) : decide ((Sum.inr a : Key) = Sum.inl b) = false := decide_eq_false (fun q => nomatch q)

noncomputable def mixKind (prog : Program) (w : World) : PySem.KeyKind prog w Key where
  is := keyIs
  hash := keyH w
  inj := fun v a b ha hb => by
    rcases keyIs_shape ha with ⟨i, t, rfl, rfl⟩ | ⟨x, t, rfl, rfl⟩
    · rcases keyIs_shape hb with ⟨j, u, rfl, e⟩ | ⟨y, u, rfl, e⟩
      · injection e with e1 _; rw [e1]
      · exact nomatch e
    · rcases keyIs_shape hb with ⟨j, u, rfl, e⟩ | ⟨y, u, rfl, e⟩
      · exact nomatch e
      · injection e with e1 _; rw [e1]
  byValue := fun k v h => by
    rcases keyIs_shape h with ⟨i, t, rfl, rfl⟩ | ⟨x, t, rfl, rfl⟩ <;> rfl
  pyHash := fun hv h => by
    rcases keyIs_shape hv with ⟨i, t, rfl, rfl⟩ | ⟨x, t, rfl, rfl⟩
    · exact wpAny_pyHash_int h
    · exact wpAny_pyHash_str h
  eqBool := fun hu hv h => by
    rcases keyIs_shape hu with ⟨i, t, rfl, rfl⟩ | ⟨x, t, rfl, rfl⟩
    · rcases keyIs_shape hv with ⟨j, u, rfl, rfl⟩ | ⟨y, u, rfl, rfl⟩
      · rw [key_ll] at h; exact wpAny_eqBool_int h
      · rw [key_lr] at h; exact SeqAt.EqAt.int_str i t y u _ _ _ _ h
    · rcases keyIs_shape hv with ⟨j, u, rfl, rfl⟩ | ⟨y, u, rfl, rfl⟩
      · rw [key_rl] at h; exact SeqAt.EqAt.str_int x t j u _ _ _ _ h
      · rw [key_rr] at h; exact wpAny_eqBool_str h
  «strs» := fun k x t v h => by
    rcases keyIs_shape h with ⟨i, u, rfl, e⟩ | ⟨y, u, rfl, e⟩
    · exact nomatch e
    · injection e with e1 _
      subst e1
      cases v <;> rfl

theorem mixKind_int (prog : Program) (w : World) (i : Int) (t : Tok) : (mixKind prog w).is (.inl i) (.int i t) = true := keyIs_int i t
theorem mixKind_str (prog : Program) (w : World) (x : Str) (t : Tok) : (mixKind prog w).is (.inr x) (.str x t) = true := keyIs_str x t
end L2
namespace L2
open PySem PySem.Spec PyProof.Rows
inductive V where
  | non | bl (b : Bool) | int (i : Int) | str (x : Str) | byt (b : Array UInt8) | flt (b : UInt64) | ref (a : Addr) | ty (n : String)
  deriving DecidableEq

noncomputable def RelV : V → Value → Prop
  | .non, u => u = Value.none
  | .bl b, u => u = Value.bool b
  | .int i, u => ∃ t, u = Value.int i t
  | .str x, u => ∃ t, u = Value.str x t
  | .byt b, u => ∃ t, u = Value.bytes b t
  | .flt b, u => ∃ t, u = Value.float b t
  | .ref a, u => u = Value.ref a
  | .ty n, u => u = Value.type n

noncomputable abbrev Vals : List V → List Value → Prop := Paired RelV
theorem Vals.length {xs : List V} {us : List Value} (r : Vals xs us) : xs.length = us.length := Paired.length r
theorem Vals.get : ∀ {xs : List V} {us : List Value} {i : Nat} {x : V}, Vals xs us → xs[i]? = some x → ∃ u, us[i]? = some u ∧ RelV x u
  | _, _, _, _, .nil, e => by simp at e
  | _, _, 0, _, .cons r _, e => by simp at e; subst e; exact ⟨_, rfl, r⟩
  | _, _, i + 1, x, .cons _ t, e => by
    obtain ⟨u, h1, h2⟩ := Vals.get (i := i) (x := x) t (by simpa using e)
    exact ⟨u, by simpa using h1, h2⟩
theorem Vals.set {x : V} {u : Value} (r : RelV x u) : ∀ {xs : List V} {us : List Value} (i : Nat), Vals xs us → Vals (xs.set i x) (us.set i u)
  | _, _, _, .nil => .nil
  | _, _, 0, .cons _ t => .cons r t
  | _, _, i + 1, .cons q t => .cons q (Vals.set r i t)
theorem Vals.append : ∀ {xs ys : List V} {us ws : List Value}, Vals xs us → Vals ys ws → Vals (xs ++ ys) (us ++ ws)
  | _, _, _, _, .nil, s => s
  | _, _, _, _, .cons r t, s => .cons r (Vals.append t s)
theorem Vals.take : ∀ {xs : List V} {us : List Value} (n : Nat), Vals xs us → Vals (xs.take n) (us.take n)
  | _, _, 0, _ => .nil
  | _, _, _ + 1, .nil => .nil
  | _, _, n + 1, .cons r t => .cons r (Vals.take n t)
theorem Vals.drop : ∀ {xs : List V} {us : List Value} (n : Nat), Vals xs us → Vals (xs.drop n) (us.drop n)
  | _, _, 0, r => r
  | _, _, _ + 1, .nil => .nil
  | _, _, n + 1, .cons _ t => Vals.drop n t
noncomputable def RelO : Option V → Option Value → Prop
  | some v, some u => RelV v u
  | none, none => True
  | _, _ => False
noncomputable def KV {κ : Type} : List (κ × V) → List (κ × Value) → Prop := Paired fun (p : κ × V) (q : κ × Value) => p.1 = q.1 ∧ RelV p.2 q.2

noncomputable def kV : Key → V
  | .inl i => .int i
  | .inr x => .str x

inductive HO where
  /-- a list -/
  | lst (xs : List V)
  /-- a tuple (never changes) -/
  | tup (xs : List V)
  /-- a dict whose keys are ints and texts; one whose keys are tuples of ints and texts (the empty one is both) -/
  | dK (kvs : List (Key × V)) | dT (kvs : List (List Key × V))
  /-- a set of ints: its members, its size -/
  | set (S : Int → Bool) (n : Nat)
  /-- an instance of the class at C, its dict at dx, its attributes -/
  | ins (C dx : Addr) (fs : List (Str × V))
  /-- the dict of the instance at x -/
  | own (x : Addr)
  /-- the dict of an exception -/
  | xd (fs : List (Str × V))
  /-- a bound method, f of x -/
  | met (f x : Addr)
  /-- a range object lo, lo + 1, .. below hi -/
  | rng (lo hi : Int)
  /-- a thing that is known to the object (the script; a dict while a loop walks it): read, never written while it is so -/
  | frz (o : Obj) (u : HO)
  /-- a code object's table -/
  | tbl (ps : Array Value)
  /-- any other thing, by what is true of its one object (a def of one's own: SetO a S n := HO.ext fun h => ..) -/
  | ext (φ : Heap → Prop)

noncomputable abbrev Hp := Addr → Option HO
noncomputable def upd (H : Hp) (a : Addr) (o : HO) : Hp := fun b => if b = a then some o else H b
theorem upd_same {H : Hp} {a : Addr} {o : HO} : upd H a o a = some o := by unfold upd; rw [if_pos rfl]
theorem upd_ne {H : Hp} {a b : Addr} {o : HO} (h : b ≠ a) : upd H a o b = H b := by unfold upd; rw [if_neg h]
theorem ne_of {H : Hp} {a b : Addr} {o u : HO} (h : H a = some o) (h' : H b = some u) (d : o ≠ u) : a ≠ b := by
  intro e; subst e; rw [h] at h'; exact d (Option.some.inj h')
theorem ne_of_none {H : Hp} {a b : Addr} {o : HO} (h : H a = some o) (h' : H b = none) : a ≠ b := by
  intro e; subst e; rw [h] at h'; cases h'

section
variable (P : Program) (w : World)
noncomputable def ObjOk (H : Hp) (h : Heap) (a : Addr) : HO → Prop
  | .lst xs => xs.length ≤ sizeLine ∧ ∃ (its : List Value) (n : Nat), Vals xs its ∧ h.get? a = some { cls := .type "list", data := .seq its.toArray n }
  | .tup xs => xs.length ≤ sizeLine ∧ ∃ its : List Value, Vals xs its ∧ IsTup h a its.toArray
  | .dK kvs => kvs.length ≤ sizeLine ∧ (a == sysModules) = false ∧ ∃ vs, KV kvs vs ∧ h.DictOf (mixKind P w) a vs
  | .dT kvs => kvs.length ≤ sizeLine ∧ (a == sysModules) = false ∧ ∃ xs : List (List Key × Addr × Value),
      Paired (fun (p : List Key × V) (q : List Key × Addr × Value) => p.1 = q.1 ∧ H q.2.1 = some (.tup (p.1.map kV)) ∧ RelV p.2 q.2.2) kvs xs ∧
      ∃ o es ep, h.get? a = some o ∧ o.ExactDict ∧ o.data = .dict es ep ∧ es.toList = xs.map (entryOfKey (tupleKind (mixKind P w))) ∧ (xs.map (·.1)).Nodup
  | .set S n => h.SetOf (intKind P w) a S n
  | .ins C dx fs => H dx = some (.own a) ∧ fs.length ≤ 1000 ∧ dx ≠ a ∧ h.get? a = some (PySem.W.instObj C dx) ∧
      ∃ mA, h.Ns1 dx mA ∧ (∀ f, RelO (fs.lookup f) (mA f)) ∧ PySem.Within mA (fs.map (·.1))
  | .own _ => ∃ o, h.get? a = some o
  | .xd fs => ∃ mA, h.Ns1 a mA ∧ ∀ f, RelO (fs.lookup f) (mA f)
  | .rng lo hi => ∃ t u v, h.get? a = some { cls := .type "range", data := .fields #[.int lo t, .int hi u, .int 1 v] }
  | .frz o u => h.get? a = some o ∧ ObjOk H h a u
  | .tbl ps => h.get? a = some { cls := .none, data := .fields ps }
  | .met f x => h.get? a = some (PySem.W.methodObj (.ref f) (.ref x))
  | .ext φ => φ h ∧ (∃ o, h.get? a = some o) ∧ ∀ h1 h2 : Heap, φ h1 → (∀ o, h1.get? a = some o → h2.get? a = some o) → φ h2
noncomputable def HOk (H : Hp) (h : Heap) : Prop := ∀ a o, H a = some o → ObjOk P w H h a o
end
section
variable {P : Program} {w : World} {H H' : Hp} {h h' : Heap} {a : Addr} {o : HO}
theorem ObjOk.lt (x : ObjOk P w H h a o) : a < h.objs.size := by
  cases o with
  | lst xs => obtain ⟨_, _, _, _, e⟩ := x; exact Heap.lt_size e
  | tup xs => obtain ⟨_, _, _, p⟩ := x; exact p.lt
  | dK kvs => obtain ⟨_, _, _, _, o, _, _, e, _⟩ := x; exact Heap.lt_size e
  | dT kvs => obtain ⟨_, _, _, _, o, _, _, e, _⟩ := x; exact Heap.lt_size e
  | set S n => obtain ⟨o, _, _, _, e, _⟩ := x; exact Heap.lt_size e
  | ins C dx fs => obtain ⟨_, _, _, e, _⟩ := x; exact Heap.lt_size e
  | own y => obtain ⟨_, e⟩ := x; exact Heap.lt_size e
  | xd fs => obtain ⟨_, ⟨_, _, _, e, _⟩, _⟩ := x; exact Heap.lt_size e
  | rng lo hi => obtain ⟨_, _, _, e⟩ := x; exact Heap.lt_size e
  | frz ob u => obtain ⟨e, _⟩ := x; exact Heap.lt_size e
  | tbl ps => exact Heap.lt_size (show h.get? a = some _ from x)
  | met f y => exact Heap.lt_size (show h.get? a = some _ from x)
  | ext φ => obtain ⟨_, ⟨_, e⟩, _⟩ := x; exact Heap.lt_size e
theorem Paired.mapP {α β : Type} {F G : α → β → Prop} : ∀ {l₁ : List α} {l₂ : List β}, Paired F l₁ l₂ → (∀ a b, F a b → G a b) → Paired G l₁ l₂
  | _, _, .nil, _ => .nil
  | _, _, .cons r t, f => .cons (f _ _ r) (Paired.mapP t f)
theorem ObjOk.stay (x : ObjOk P w H h a o) (k : ∀ b u, (b = a ∨ H b = some (.own a)) → h.get? b = some u → h'.get? b = some u)
    (ho : ∀ b, H b = some (.own a) → H' b = some (.own a)) (ht : ∀ b xs, H b = some (.tup xs) → H' b = some (.tup xs)) : ObjOk P w H' h' a o := by
  induction o with
  | lst xs => obtain ⟨z, its, n, r, e⟩ := x; exact ⟨z, its, n, r, k _ _ (.inl rfl) e⟩
  | tup xs => obtain ⟨z, its, r, ob, e, c⟩ := x; exact ⟨z, its, r, ob, k _ _ (.inl rfl) e, c⟩
  | dK kvs => obtain ⟨z, y, vs, r, ob, es, ep, e, c⟩ := x; exact ⟨z, y, vs, r, ob, es, ep, k _ _ (.inl rfl) e, c⟩
  | dT kvs =>
    obtain ⟨z, y, xs, r, ob, es, ep, e, c⟩ := x
    exact ⟨z, y, xs, Paired.mapP r fun p q z => ⟨z.1, ht _ _ z.2.1, z.2.2⟩, ob, es, ep, k _ _ (.inl rfl) e, c⟩
  | set S n => obtain ⟨ob, es, ep, t, e, c⟩ := x; exact ⟨ob, es, ep, t, k _ _ (.inl rfl) e, c⟩
  | ins C dx fs =>
    obtain ⟨d, z, ne, e, mA, ⟨od, es, ep, e2, c⟩, r⟩ := x
    exact ⟨ho _ d, z, ne, k _ _ (.inl rfl) e, mA, ⟨od, es, ep, k _ _ (.inr d) e2, c⟩, r⟩
  | own y => obtain ⟨ob, e⟩ := x; exact ⟨ob, k _ _ (.inl rfl) e⟩
  | xd fs => obtain ⟨mA, ⟨od, es, ep, e, c⟩, r⟩ := x; exact ⟨mA, ⟨od, es, ep, k _ _ (.inl rfl) e, c⟩, r⟩
  | rng lo hi => obtain ⟨t, u, v, e⟩ := x; exact ⟨t, u, v, k _ _ (.inl rfl) e⟩
  | frz ob u ih => obtain ⟨e, q⟩ := x; exact ⟨k _ _ (.inl rfl) e, ih q⟩
  | tbl ps =>
    have e : h.get? a = some { cls := .none, data := .fields ps } := x
    show h'.get? a = some { cls := .none, data := .fields ps }
    exact k a _ (.inl rfl) e
  | met f y =>
    have e : h.get? a = some (PySem.W.methodObj (.ref f) (.ref y)) := x
    show h'.get? a = some (PySem.W.methodObj (.ref f) (.ref y))
    exact k a _ (.inl rfl) e
  | ext φ => obtain ⟨p, ⟨o, e⟩, st⟩ := x; exact ⟨st _ _ p fun o q => k _ _ (.inl rfl) q, ⟨o, k _ _ (.inl rfl) e⟩, st⟩
theorem HOk.lt (x : HOk P w H h) (e : H a = some o) : a < h.objs.size := (x a o e).lt
theorem HOk.fresh (x : HOk P w H h) (e : h.objs.size ≤ a) : H a = none := by
  cases q : H a with
  | none => rfl
  | some u => exact absurd (Nat.lt_of_lt_of_le (x.lt q) e) (Nat.lt_irrefl _)
theorem HOk.kept (x : HOk P w H h) (k : ∀ b u, h.get? b = some u → h'.get? b = some u) : HOk P w H h' := fun a o e =>
  (x a o e).stay (fun b u _ q => k b u q) (fun _ q => q) fun _ _ q => q
theorem HOk.laid (x : HOk P w H h) (k : ∀ b u, h.get? b = some u → h'.get? b = some u) (hp : h.objs.size ≤ a) (new : ObjOk P w (upd H a o) h' a o) : HOk P w (upd H a o) h' := fun b u e => by
  have hn := x.fresh hp
  by_cases hb : b = a
  · subst hb; rw [upd_same] at e; cases e; exact new
  · rw [upd_ne hb] at e
    exact (x b u e).stay (fun c v _ q => k c v q) (fun c q => by rw [upd_ne (ne_of_none q hn)]; exact q) fun c xs q => by rw [upd_ne (ne_of_none q hn)]; exact q
end
noncomputable def Rd (H : Hp) (a : Addr) (u : HO) : Prop := H a = some u ∨ ∃ o, H a = some (.frz o u)
theorem Rd.ok {P : Program} {w : World} {H : Hp} {h : Heap} {a : Addr} {u : HO} (r : Rd H a u) (x : HOk P w H h) : ObjOk P w H h a u := by
  rcases r with r | ⟨o, r⟩
  · exact x a u r
  · obtain ⟨_, q⟩ := x a _ r
    exact q
noncomputable def Mut : Option HO → Prop
  | some (.lst _) => True
  | some (.dK _) => True
  | some (.dT _) => True
  | some (.set _ _) => True
  | some (.ins _ _ _) => True
  | some (.ext _) => True
  | _ => False
section
variable {P : Program} {w : World} {H : Hp} {h h' : Heap} {x e : Addr} {o' : HO}
theorem HOk.write (ok : HOk P w H h) (mu : Mut (H x)) (he : e = x ∨ H e = some (.own x)) (k : ∀ b u, b ≠ e → h.get? b = some u → h'.get? b = some u) (heo : ∃ u, h'.get? e = some u)
    (new : ObjOk P w (upd H x o') h' x o') : HOk P w (upd H x o') h' := fun b u q => by
  have nown : ∀ c y, H c = some (.own y) → c ≠ x := fun c y r z => by subst z; rw [r] at mu; exact mu
  have ntup : ∀ c xs, H c = some (.tup xs) → c ≠ x := fun c xs r z => by subst z; rw [r] at mu; exact mu
  by_cases hb : b = x
  · subst hb; rw [upd_same] at q; cases q; exact new
  · rw [upd_ne hb] at q
    by_cases hbe : b = e
    · have q' : H b = some (.own x) := by
        rcases he with z | z
        · exact absurd (hbe.trans z) hb
        · rw [hbe]; exact z
      rw [q] at q'; cases q'
      obtain ⟨v, hv⟩ := heo
      exact ⟨v, by rw [hbe]; exact hv⟩
    · refine (ok b u q).stay (fun c v hc r => k c v ?_ r) (fun c r => by rw [upd_ne (nown c b r)]; exact r) fun c xs r => by rw [upd_ne (ntup c xs r)]; exact r
      rcases hc with rfl | hc
      · exact hbe
      · rintro rfl
        rcases he with z | z
        · exact nown c b hc z
        · rw [hc] at z; cases z; exact hb rfl
end
structure Un (fs ex : List Addr) (H H' : Hp) (h h' : Heap) : Prop where
  keep : ∀ b o, h.get? b = some o → H b = none → b ∉ fs → b ∉ ex → h'.get? b = some o
  slot : ∀ b o, h.get? b = some o → H b = none → b ∈ fs → b ∉ ex → ∃ sl, h'.get? b = some { o with slots := sl }
  free : ∀ b o, h.get? b = some o → H b = none → b ∉ ex → H' b = none
  there : ∀ b o, h.get? b = some o → b ∉ ex → ∃ o', h'.get? b = some o'
  tups : ∀ b xs, H b = some (.tup xs) → H' b = some (.tup xs)
  frzs : ∀ b o u, H b = some (.frz o u) → H' b = some (.frz o u)
  tbls : ∀ b ps, H b = some (.tbl ps) → ∃ more, H' b = some (.tbl (ps ++ more))
section
variable {fs fs' ex ex' : List Addr} {H H1 H2 : Hp} {h h1 h2 h' : Heap} {a x e : Addr} {o : HO}
theorem Un.any (u : Un fs ex H H1 h h1) {b : Addr} {ob : Obj} (q : h.get? b = some ob) (n : H b = none) (hx : b ∉ ex) : ∃ sl, h1.get? b = some { ob with slots := sl } := by
  by_cases hb : b ∈ fs
  · exact u.slot b ob q n hb hx
  · exact ⟨ob.slots, u.keep b ob q n hb hx⟩
theorem Un.kept (k : ∀ b u, h.get? b = some u → h'.get? b = some u) : Un fs ex H H h h' :=
  ⟨fun b ob q _ _ _ => k b ob q, fun b ob q _ _ _ => ⟨ob.slots, k b ob q⟩, fun _ _ _ n _ => n, fun b ob q _ => ⟨ob, k b ob q⟩, fun _ _ q => q, fun _ _ _ q => q, fun _ ps q => ⟨#[], by rw [q]; simp⟩⟩
theorem Un.refl : Un fs ex H H h h := Un.kept fun _ _ q => q
theorem Un.laid (k : ∀ b u, h.get? b = some u → h'.get? b = some u) (hp : h.objs.size ≤ a) (hn : H a = none) : Un fs ex H (upd H a o) h h' where
  keep := fun b u q _ _ _ => k b u q
  slot := fun b u q _ _ _ => ⟨u.slots, k b u q⟩
  free := fun b u q n _ => by rw [upd_ne (Nat.ne_of_lt (Nat.lt_of_lt_of_le (Heap.lt_size q) hp))]; exact n
  there := fun b u q _ => ⟨u, k b u q⟩
  tups := fun b xs q => by rw [upd_ne (ne_of_none q hn)]; exact q
  frzs := fun b u xs q => by rw [upd_ne (ne_of_none q hn)]; exact q
  tbls := fun b ps q => ⟨#[], by rw [upd_ne (ne_of_none q hn), q]; simp⟩
theorem Un.write (mu : Mut (H x)) (he : e = x ∨ H e = some (.own x)) (k : ∀ b u, b ≠ e → h.get? b = some u → h'.get? b = some u) (heo : ∃ u, h'.get? e = some u) : Un fs ex H (upd H x o) h h' := by
  have hx : ∀ b, H b = none → b ≠ x := fun b n z => by subst z; rw [n] at mu; exact mu
  have hb : ∀ b, H b = none → b ≠ e := fun b n z => by
    subst z
    rcases he with r | r
    · exact hx b n r
    · rw [n] at r; cases r
  have hm : ∀ b u, H b = some u → ¬ Mut (some u) → b ≠ x := fun b u q nm z => by subst z; rw [q] at mu; exact nm mu
  refine ⟨fun b u q n _ _ => k b u (hb b n) q, fun b u q n _ _ => ⟨u.slots, k b u (hb b n) q⟩, fun b u q n _ => by rw [upd_ne (hx b n)]; exact n, fun b u q _ => ?_,
    fun b xs q => by rw [upd_ne (hm b _ q fun z => z)]; exact q, fun b u xs q => by rw [upd_ne (hm b _ q fun z => z)]; exact q, fun b ps q => ⟨#[], by rw [upd_ne (hm b _ q fun z => z), q]; simp⟩⟩
  by_cases hbe : b = e
  · subst hbe; exact heo
  · exact ⟨u, k b u hbe q⟩
end
noncomputable def trk (h : Heap) (H : Hp) : List Addr := (List.range h.objs.size).filter fun a => (H a).isSome
noncomputable def hidT (h : Heap) (H : Hp) : Heap := PySem.W.hideAll h (trk h H)
theorem hidT_size (h : Heap) (H : Hp) : (hidT h H).objs.size = h.objs.size := PySem.W.hideAll_size _ _
theorem hidT_get {h : Heap} {H : Hp} {b : Addr} {o : Obj} (e : h.get? b = some o) (n : H b = none) : (hidT h H).get? b = some o :=
  PySem.W.hideAll_get _ e fun hm => by
    have q : (H b).isSome = true := (List.mem_filter.mp hm).2
    rw [n] at q; simp at q
theorem of_hidT {h : Heap} {H : Hp} {b : Addr} {o : Obj} (e : (hidT h H).get? b = some o) : h.get? b = some o ∧ H b = none := by
  have e' : h.get? b = some o := PySem.W.of_hideAll (trk h H) e
  refine ⟨e', ?_⟩
  cases q : H b with
  | none => rfl
  | some x =>
    have hm : b ∈ trk h H := List.mem_filter.mpr ⟨List.mem_range.mpr (Heap.lt_size e'), by simp [q]⟩
    have z : (hidT h H).get? b = none := PySem.W.hideAll_none (trk h H) hm
    rw [z] at e; cases e

noncomputable def allNews (g h : Heap) (L : Addr) : List (Addr × Obj) := (List.range h.objs.size).filterMap fun a => if a = L ∨ (g.get? a).isSome = true then none else (h.get? a).map fun o => (a, o)
noncomputable def rest (g h : Heap) (L d : Addr) : List (Addr × Obj) := (allNews g h L).filter fun p => decide (p.1 ≠ d)
end L2
namespace L2
open PySem PySem.Spec PyProof.Rows
structure Mod (K : PySem.W.Frag) (mg : Str → Option Value) (base : Heap) : Prop where
  kin : K.In base
  glob : base.Ns mainGlobals mg
  blt : ∃ mb, base.Ns builtinsNs mb ∧ ∀ x : Str, x ≠ "__name__" → mb x = bootBuiltins x
  nolimit : base.NoLimit

structure Cx where
  prog : Program
  w : World
  K : PySem.W.Frag
  mg : Str → Option Value
  base : Heap
  A : Around
  N : List Str
  s₀ : Shared
  H₀ : Hp
  env : Env
  outer : List Env
  stack : List Env
  ex : List Addr
  fn : Str → Bool
  calm : Bool
  pn : List (Addr × Obj)
  xe : Value → Shared → Prop
noncomputable def frs (l : List Env) : List Addr := l.filterMap (·.frame)
noncomputable abbrev Cx.fs (X : Cx) : List Addr := frs X.outer

noncomputable def Vis (sc : Scope) (x : Str) : Prop := sc.names.lookup x = some .local ∨ sc.names.lookup x = some .cell ∨ sc.names.lookup x = some .free
noncomputable def Loc (sc : Scope) (x : Str) : Prop := sc.names.lookup x = some .local ∨ sc.names.lookup x = some .cell
noncomputable def Look (env : Env) (h : Heap) (m : Str → Option Value) (x : Str) (u : Value) : Prop :=
  (env.kindOf x = some .local ∧ m x = some u) ∨ ((env.kindOf x = some .cell ∨ env.kindOf x = some .free) ∧ ∃ c, env.cells.lookup x = some c ∧ h.IsCell c (some u))

structure Cx.Ok (X : Cx) : Prop where
  mod : Mod X.K X.mg X.base
  kind : X.env.scope.kind = .function
  glob : X.env.globals = mainGlobals
  blt : X.env.builtins = builtinsNs
  above : X.s₀.heap.objs.size ≤ X.env.locals
  inj : ∀ x y c, X.env.cells.lookup x = some c → X.env.cells.lookup y = some c → x = y
  has : ∀ x, (X.env.kindOf x = some .cell ∨ X.env.kindOf x = some .free) → ∃ c, X.env.cells.lookup x = some c
  cab : ∀ x c, X.fn x = true → X.env.cells.lookup x = some c → X.s₀.heap.objs.size ≤ c
  hd : X.calm = true → X.A.handled = none
  frames : X.A.frames = some X.stack
  stk : X.stack = X.outer ∨ (X.stack = X.env :: X.outer ∧ X.env.frame = some X.env.locals)
  exf : ∀ b ∈ X.ex, b ≠ X.env.locals ∧ ∀ x c, X.env.cells.lookup x = some c → c ≠ b
  bs : ∀ b o, X.base.get? b = some o → X.s₀.heap.get? b = some o ∧ X.H₀ b = none
  bsz : X.base.objs.size ≤ X.s₀.heap.objs.size
  noex : ∀ b o, X.base.get? b = some o → b ∉ X.ex
  exfs : ∀ b ∈ X.ex, b ∉ X.fs
  funs : X.s₀.heap.FunFrames X.base X.outer
  frf : ∀ b ∈ X.fs, X.H₀ b = none

structure Inv (X : Cx) (pins : List (Addr × Obj)) (σ : List (Option V)) (H : Hp) (s : Shared) : Prop where
  ok : X.Ok
  os : s.os = X.s₀.os
  bare : AllBare s.gens
  base : Un X.fs X.ex X.H₀ H X.s₀.heap s.heap
  loc : ∃ m, s.heap.Ns X.env.locals m ∧ ∀ (i : Nat) (x : Str) (v : V), X.N[i]? = some x → σ[i]? = some (some v) → Vis X.env.scope x → ∃ u, RelV v u ∧ Look X.env s.heap m x u
  cell : ∀ x c, X.env.cells.lookup x = some c → ∃ v, s.heap.IsCell c v
  free : H X.env.locals = none
  freeC : ∀ x c, X.env.cells.lookup x = some c → H c = none
  pin : ∀ p ∈ X.pn ++ pins, s.heap.get? p.1 = some p.2 ∧ H p.1 = none ∧ p.1 ≠ X.env.locals ∧ p.1 ∉ X.fs ∧ ∀ v, p.2.data ≠ .cell v
  hok : HOk X.prog X.w H s.heap
  len : σ.length = X.N.length

section
variable {X : Cx} {pins : List (Addr × Obj)} {σ : List (Option V)} {H H' : Hp} {s : Shared} {h' : Heap}
theorem Cx.Ok.nofr (ok : X.Ok) {b : Addr} {o : Obj} (e : X.base.get? b = some o) : b ∉ X.fs := fun hb => by
  have := (ok.funs.mem hb).1
  rw [e] at this; cases this
theorem Inv.bs (I : Inv X pins σ H s) : ∀ b o, X.base.get? b = some o → s.heap.get? b = some o ∧ H b = none := fun b o e =>
  ⟨I.base.keep b o (I.ok.bs b o e).1 (I.ok.bs b o e).2 (I.ok.nofr e) (I.ok.noex b o e), I.base.free b o (I.ok.bs b o e).1 (I.ok.bs b o e).2 (I.ok.noex b o e)⟩
theorem Inv.bk (I : Inv X pins σ H s) : ∀ b o, X.base.get? b = some o → s.heap.get? b = some o := fun b o e => (I.bs b o e).1
theorem Inv.mod (I : Inv X pins σ H s) : Mod X.K X.mg X.base := I.ok.mod
theorem Inv.kIn (I : Inv X pins σ H s) : X.K.In s.heap := I.ok.mod.kin.keeps I.bk
theorem Inv.lt (I : Inv X pins σ H s) : X.env.locals < s.heap.objs.size := let ⟨_, hn, _⟩ := I.loc; hn.lt
theorem Inv.sz (I : Inv X pins σ H s) : X.s₀.heap.objs.size ≤ s.heap.objs.size := Nat.le_trans I.ok.above (Nat.le_of_lt I.lt)
theorem Inv.nofs (I : Inv X pins σ H s) {a : Addr} (h : s.heap.objs.size ≤ a) : a ∉ X.fs := fun hb => by
  obtain ⟨_, o, ho, _⟩ := I.ok.funs.mem hb
  exact absurd (Nat.lt_of_lt_of_le (Heap.lt_size ho) (Nat.le_trans I.sz h)) (Nat.lt_irrefl _)
theorem Inv.cne (I : Inv X pins σ H s) : ∀ x c, X.env.cells.lookup x = some c → c ≠ X.env.locals := fun x c e z => by
  obtain ⟨v, o, ho, hd⟩ := I.cell x c e
  obtain ⟨m, ⟨o', es, ep, ho', hd', _⟩, _⟩ := I.loc
  rw [z, ho'] at ho; cases ho; rw [hd'] at hd; cases hd
theorem Inv.funs (I : Inv X pins σ H s) : s.heap.FunFrames X.base X.outer := by
  have all : ∀ (l : List Env), (∀ b ∈ frs l, b ∈ X.fs) → X.s₀.heap.FunFrames X.base l → s.heap.FunFrames X.base l := by
    intro l
    induction l with
    | nil => intro _ _; trivial
    | cons env r ih =>
      intro hs hl
      obtain ⟨hk, ⟨L, o, hf, hn, ho, hd⟩, hr⟩ := hl
      have hL : L ∈ X.fs := hs L (by unfold frs; rw [List.filterMap_cons, hf]; exact List.mem_cons_self)
      obtain ⟨sl, e⟩ := I.base.slot L o ho (I.ok.frf L hL) hL fun z => I.ok.exfs L z hL
      exact ⟨hk, ⟨L, _, hf, hn, e, hd⟩, ih (fun b hb => hs b (by unfold frs; rw [List.filterMap_cons, hf]; exact List.mem_cons_of_mem _ hb)) hr⟩
  exact all X.outer (fun _ hb => hb) I.ok.funs

theorem Inv.stack (I : Inv X pins σ H s) : s.heap.FunFrames X.base X.stack := by
  rcases I.ok.stk with e | ⟨e, hf⟩
  · rw [e]; exact I.funs
  · rw [e]
    obtain ⟨m, hn, _⟩ := I.loc
    refine .cons (by rw [I.ok.kind]; decide) hf hn ?_ I.funs
    exact Heap.get?_none_of_le (Nat.le_trans I.ok.bsz I.ok.above)
theorem Inv.stkSub (I : Inv X pins σ H s) : ∀ b ∈ frs X.stack, b ∈ X.env.locals :: X.fs := fun b hb => by
  rcases I.ok.stk with e | ⟨e, hf⟩
  · rw [e] at hb; exact List.mem_cons_of_mem _ hb
  · rw [e] at hb
    unfold frs at hb
    rw [List.filterMap_cons, hf] at hb
    exact hb
theorem Inv.stkFree (I : Inv X pins σ H s) : ∀ b ∈ frs X.stack, H b = none := fun b hb => by
  rcases List.mem_cons.mp (I.stkSub b hb) with e | hb
  · rw [e]; exact I.free
  · obtain ⟨_, o, ho, _⟩ := I.ok.funs.mem hb
    exact I.base.free b o ho (I.ok.frf b hb) fun z => I.ok.exfs b z hb

theorem Inv.step {g' : Array GenState} {t' : Nat} {d' : Drawn} {ch : List Addr} (I : Inv X pins σ H s)
    (hch : ∀ b ∈ ch, (b ∈ X.ex ∨ X.s₀.heap.objs.size ≤ b) ∧ b ≠ X.env.locals ∧ (∀ x c, X.env.cells.lookup x = some c → c ≠ b) ∧ ∀ p ∈ X.pn ++ pins, p.1 ≠ b)
    (keep : ∀ b o, b ≠ X.env.locals → b ∉ X.fs → b ∉ ch → s.heap.get? b = some o → H b = none → h'.get? b = some o)
    (slot : ∀ b o, b ≠ X.env.locals → b ∈ X.fs → b ∉ ch → s.heap.get? b = some o → H b = none → ∃ sl, h'.get? b = some { o with slots := sl }) (free : ∀ b o, b ∉ ch → s.heap.get? b = some o → H b = none → H' b = none)
    (there : ∀ b o, b ∉ ch → s.heap.get? b = some o → ∃ o', h'.get? b = some o')
    (tups : ∀ b xs, H b = some (.tup xs) → H' b = some (.tup xs)) (frzs : ∀ b o u, H b = some (.frz o u) → H' b = some (.frz o u)) (tbls : ∀ b ps, H b = some (.tbl ps) → ∃ more, H' b = some (.tbl (ps ++ more)))
    (ns : ∀ m, s.heap.Ns X.env.locals m → h'.Ns X.env.locals m) (hok : HOk X.prog X.w H' h') (hg : AllBare g') :
    Inv X pins σ H' { s with heap := h', gens := g', drawn := d', toks := t' } := by
  have neL : ∀ b o, X.s₀.heap.get? b = some o → b ≠ X.env.locals := fun b o e => Nat.ne_of_lt (Nat.lt_of_lt_of_le (Heap.lt_size e) I.ok.above)
  have neC : ∀ b o, X.s₀.heap.get? b = some o → b ∉ X.ex → b ∉ ch := fun b o e hx hb => by
    rcases (hch b hb).1 with z | z
    · exact hx z
    · exact absurd (Nat.lt_of_lt_of_le (Heap.lt_size e) z) (Nat.lt_irrefl _)
  have cellK : ∀ x c, X.env.cells.lookup x = some c → ∀ v, s.heap.IsCell c v → h'.IsCell c v := fun x c e v ⟨o, ho, hd⟩ => by
    have nch : c ∉ ch := fun z => (hch c z).2.2.1 x c e rfl
    by_cases hc : c ∈ X.fs
    · obtain ⟨sl, q⟩ := slot c o (I.cne x c e) hc nch ho (I.freeC x c e)
      exact ⟨_, q, hd⟩
    · exact ⟨o, keep c o (I.cne x c e) hc nch ho (I.freeC x c e), hd⟩
  refine ⟨I.ok, I.os, hg, ⟨fun b o e n hb hx => ?_, fun b o e n hb hx => ?_, fun b o e n hx => ?_, fun b o e hx => ?_, fun b xs e => tups b xs (I.base.tups b xs e), fun b o xs e => frzs b o xs (I.base.frzs b o xs e), fun b ps e => ?_⟩, ?_, fun x c e => ?_, ?_, fun x c e => ?_, fun p hp => ?_, hok, I.len⟩
  · exact keep b o (neL b o e) hb (neC b o e hx) (I.base.keep b o e n hb hx) (I.base.free b o e n hx)
  · obtain ⟨sl, e1⟩ := I.base.slot b o e n hb hx
    obtain ⟨sl', e2⟩ := slot b _ (neL b o e) hb (neC b o e hx) e1 (I.base.free b o e n hx)
    exact ⟨sl', e2⟩
  · obtain ⟨o', e1⟩ := I.base.there b o e hx
    exact free b o' (neC b o e hx) e1 (I.base.free b o e n hx)
  · obtain ⟨o', e1⟩ := I.base.there b o e hx
    exact there b o' (neC b o e hx) e1
  · obtain ⟨m1, e1⟩ := I.base.tbls b ps e
    obtain ⟨m2, e2⟩ := tbls b _ e1
    exact ⟨m1 ++ m2, by rw [e2, Array.append_assoc]⟩
  · obtain ⟨m, hn, hl⟩ := I.loc
    refine ⟨m, ns m hn, fun i x v e1 e2 e3 => ?_⟩
    obtain ⟨u, r, l⟩ := hl i x v e1 e2 e3
    refine ⟨u, r, ?_⟩
    rcases l with l | ⟨k, c, e, z⟩
    · exact .inl l
    · exact .inr ⟨k, c, e, cellK x c e _ z⟩
  · obtain ⟨v, z⟩ := I.cell x c e
    exact ⟨v, cellK x c e v z⟩
  · obtain ⟨m, ⟨o, _, _, ho, _⟩, _⟩ := I.loc
    exact free _ o (fun z => (hch _ z).2.1 rfl) ho I.free
  · obtain ⟨v, o, ho, hd⟩ := I.cell x c e
    exact free c o (fun z => (hch c z).2.2.1 x c e rfl) ho (I.freeC x c e)
  · obtain ⟨e, n, ne, nf, d⟩ := I.pin p hp
    have nch : p.1 ∉ ch := fun z => (hch p.1 z).2.2.2 p hp rfl
    exact ⟨keep p.1 p.2 ne nf nch e n, free p.1 p.2 nch e n, ne, nf, d⟩
theorem Inv.un {t' : Nat} (I : Inv X pins σ H s) (u : Un X.fs [] H H' s.heap h') (hok : HOk X.prog X.w H' h') : Inv X pins σ H' { s with heap := h', toks := t' } := by
  obtain ⟨m, ⟨o, es, ep, ho, r⟩, _⟩ := id I.loc
  obtain ⟨sl, hL⟩ := u.any ho I.free (by simp)
  exact I.step (g' := s.gens) (d' := s.drawn) (ch := []) (fun _ z => nomatch z) (fun b o _ hb _ e n => u.keep b o e n hb (by simp)) (fun b o _ hb _ e n => u.slot b o e n hb (by simp)) (fun b o _ e n => u.free b o e n (by simp)) (fun b o _ e => u.there b o e (by simp)) u.tups u.frzs u.tbls (fun m' hm => by
    obtain ⟨o', es', ep', ho', r'⟩ := hm
    rw [ho] at ho'; cases ho'
    exact ⟨_, es', ep', hL, r'⟩) hok I.bare
theorem Inv.call {g' : Array GenState} {t' : Nat} {d' : Drawn} {ch : List Addr} (I : Inv X pins σ H s) (u : Un (frs X.stack) ch H H' s.heap h') (hok : HOk X.prog X.w H' h') (hg : AllBare g')
    (hch : ∀ b ∈ ch, (b ∈ X.ex ∨ X.s₀.heap.objs.size ≤ b) ∧ b ≠ X.env.locals ∧ (∀ x c, X.env.cells.lookup x = some c → c ≠ b) ∧ ∀ p ∈ X.pn ++ pins, p.1 ≠ b) :
    Inv X pins σ H' { s with heap := h', gens := g', drawn := d', toks := t' } := by
  obtain ⟨m, ⟨o, es, ep, ho, r⟩, _⟩ := id I.loc
  obtain ⟨sl, hL⟩ := u.any ho I.free fun z => (hch _ z).2.1 rfl
  exact I.step (ch := ch) hch (fun b o hL hb hc e n => u.keep b o e n (fun z => (List.mem_cons.mp (I.stkSub b z)).elim hL hb) hc) (fun b o _ _ hc e n => u.any e n hc) (fun b o hc e n => u.free b o e n hc) (fun b o hc e => u.there b o e hc) u.tups u.frzs u.tbls (fun m' hm => by
    obtain ⟨o', es', ep', ho', r'⟩ := hm
    rw [ho] at ho'; cases ho'
    exact ⟨_, es', ep', hL, r'⟩) hok hg
theorem Inv.turned {t' : Nat} {it : Addr} (I : Inv X pins σ H s) (k : ∀ b o, b ≠ it → s.heap.get? b = some o → h'.get? b = some o) (hn : H it = none) (hL : it ≠ X.env.locals)
    (h1 : it ∈ X.ex ∨ X.s₀.heap.objs.size ≤ it) (h2 : ∀ x c, X.env.cells.lookup x = some c → c ≠ it) (h3 : ∀ p ∈ X.pn ++ pins, p.1 ≠ it) : Inv X pins σ H { s with heap := h', toks := t' } := by
  have nit : ∀ b u, H b = some u → b ≠ it := fun b u e z => by rw [z, hn] at e; cases e
  refine I.step (g' := s.gens) (d' := s.drawn) (ch := [it]) (fun b hb => ?_) (fun b o _ _ hc e _ => k b o (fun z => hc (by simp [z])) e) (fun b o _ _ hc e _ => ⟨o.slots, k b o (fun z => hc (by simp [z])) e⟩) (fun _ _ _ _ n => n)
    (fun b o hc e => ⟨o, k b o (fun z => hc (by simp [z])) e⟩) (fun _ _ e => e) (fun _ _ _ e => e) (fun b ps e => ⟨#[], by rw [e]; simp⟩) (fun m hm => ?_) (fun b u e => ?_) I.bare
  · have e : b = it := by simpa using hb
    subst e
    exact ⟨h1, hL, h2, h3⟩
  · obtain ⟨o, es, ep, ho, r⟩ := hm
    exact ⟨o, es, ep, k _ o (Ne.symm hL) ho, r⟩
  · refine (I.hok b u e).stay (fun c v hc q => k c v ?_ q) (fun _ q => q) fun _ _ q => q
    rcases hc with z | z
    · rw [z]; exact nit b u e
    · exact nit c _ z
theorem Inv.tok (I : Inv X pins σ H s) (t : Nat) : Inv X pins σ H { s with toks := t } := I.un (h' := s.heap) (t' := t) Un.refl I.hok
theorem Inv.kept {t' : Nat} (I : Inv X pins σ H s) (k : ∀ b u, s.heap.get? b = some u → h'.get? b = some u) : Inv X pins σ H { s with heap := h', toks := t' } := I.un (Un.kept k) (I.hok.kept k)
theorem Inv.laid {a : Addr} {o : HO} {t' : Nat} (I : Inv X pins σ H s) (k : ∀ b u, s.heap.get? b = some u → h'.get? b = some u) (hp : s.heap.objs.size ≤ a) (new : ObjOk X.prog X.w (upd H a o) h' a o) :
    Inv X pins σ (upd H a o) { s with heap := h', toks := t' } := I.un (Un.laid k hp (I.hok.fresh hp)) (I.hok.laid k hp new)
theorem Inv.write {x e : Addr} {o : HO} {t' : Nat} (I : Inv X pins σ H s) (mu : Mut (H x)) (he : e = x ∨ H e = some (.own x)) (k : ∀ b u, b ≠ e → s.heap.get? b = some u → h'.get? b = some u) (heo : ∃ u, h'.get? e = some u)
    (new : ObjOk X.prog X.w (upd H x o) h' x o) : Inv X pins σ (upd H x o) { s with heap := h', toks := t' } := I.un (Un.write mu he k heo) (I.hok.write mu he k heo new)
theorem Inv.pins_of {pins' : List (Addr × Obj)} (I : Inv X pins σ H s) (h : ∀ p ∈ pins', s.heap.get? p.1 = some p.2 ∧ H p.1 = none ∧ p.1 ≠ X.env.locals ∧ p.1 ∉ X.fs ∧ ∀ v, p.2.data ≠ .cell v) : Inv X pins' σ H s :=
  ⟨I.ok, I.os, I.bare, I.base, I.loc, I.cell, I.free, I.freeC, fun p hp => (List.mem_append.mp hp).elim (fun z => I.pin p (List.mem_append_left _ z)) (h p), I.hok, I.len⟩

theorem nodup_ix {N : List Str} (hN : N.Nodup) {i j : Nat} {x : Str} (a : N[i]? = some x) (b : N[j]? = some x) : i = j := by
  obtain ⟨h1, e1⟩ := List.getElem?_eq_some_iff.mp a
  obtain ⟨h2, e2⟩ := List.getElem?_eq_some_iff.mp b
  exact (List.getElem_inj hN).mp (e1.trans e2.symm)

theorem store_ok2 {M : Model} {A : Around} {E : Value → Shared → Prop} {i : Nat} {x : Str} {v : V} {u : Value} {Q : Unit → Shared → Prop} (I : Inv X pins σ H s) (hN : X.N.Nodup) (hi : X.N[i]? = some x) (hx : Loc X.env.scope x) (r : RelV v u)
    (h : ∀ s', Inv X pins (σ.set i (some v)) H s' → (∃ a, Heap.SameBut a s.heap s'.heap ∧ (a = X.env.locals ∨ X.env.cells.lookup x = some a)) → Q () s') (hf : X.fn x = true ∨ X.env.scope.names.lookup x = some .local := by first | exact .inl rfl | exact .inr rfl | assumption) : wpAny M A (storeName X.env x u) Q E s := by
  obtain ⟨m, hn, hl⟩ := id I.loc
  have hcls : (X.env.scope.kind == .class || (X.env.scope.kind == .module && X.env.locals != X.env.globals)) = false := by rw [I.ok.kind]; rfl
  have hiσ : i < σ.length := by rw [I.len]; exact (List.getElem?_eq_some_iff.mp hi).1
  have cne := I.cne
  have tracked : ∀ {a : Addr} {h' : Heap}, (∃ o, s.heap.get? a = some o ∧ H a = none) → Heap.SameBut a s.heap h' → HOk X.prog X.w H h' := fun {a h'} ha hs b ob e => by
    obtain ⟨_, _, hfree⟩ := ha
    refine (I.hok b ob e).stay (fun c w' hc q => (hs.2 c ?_).trans q) (fun _ q => q) fun _ _ q => q
    rintro rfl
    rcases hc with rfl | hc
    · rw [hfree] at e; cases e
    · rw [hfree] at hc; cases hc
  rcases hx with hk | hk
  · refine wpAny_storeName_local hk hn (fun h' hn' hs => ?_) hcls
    obtain ⟨oL, _, _, hoL, _⟩ := id hn
    refine h _ ⟨I.ok, I.os, I.bare, ⟨fun b o e n hb hx => ?_, fun b o e n hb hx => ?_, I.base.free, fun b o e hx => ?_, I.base.tups, I.base.frzs, I.base.tbls⟩, ⟨_, hn', fun j y v' e1 e2 e3 => ?_⟩, fun y c e => ?_, I.free, I.freeC, fun p hp => ?_, tracked ⟨oL, hoL, I.free⟩ hs, by simpa using I.len⟩ ⟨_, hs, .inl rfl⟩
    · exact (hs.2 b (Nat.ne_of_lt (Nat.lt_of_lt_of_le (Heap.lt_size e) I.ok.above))).trans (I.base.keep b o e n hb hx)
    · obtain ⟨sl, e1⟩ := I.base.slot b o e n hb hx
      exact ⟨sl, (hs.2 b (Nat.ne_of_lt (Nat.lt_of_lt_of_le (Heap.lt_size e) I.ok.above))).trans e1⟩
    · obtain ⟨o', e1⟩ := I.base.there b o e hx
      exact ⟨o', (hs.2 b (Nat.ne_of_lt (Nat.lt_of_lt_of_le (Heap.lt_size e) I.ok.above))).trans e1⟩
    · by_cases hj : j = i
      · subst hj
        rw [hi] at e1; cases e1
        rw [List.getElem?_set_self hiσ] at e2
        cases e2
        exact ⟨u, r, .inl ⟨hk, by simp⟩⟩
      · rw [List.getElem?_set_ne (Ne.symm hj)] at e2
        obtain ⟨u', r', q⟩ := hl j y v' e1 e2 e3
        refine ⟨u', r', ?_⟩
        rcases q with ⟨k, e⟩ | ⟨k, c, e, z⟩
        · refine .inl ⟨k, ?_⟩
          have : y ≠ x := fun e => hj (nodup_ix hN e1 (e ▸ hi))
          simp [this, e]
        · exact .inr ⟨k, c, e, z.sameBut hs (cne y c e)⟩
    · obtain ⟨w', z⟩ := I.cell y c e
      exact ⟨w', z.sameBut hs (cne y c e)⟩
    · obtain ⟨e, n, ne, nf, d⟩ := I.pin p hp
      exact ⟨(hs.2 p.1 ne).trans e, n, ne, nf, d⟩
  · have hfn : X.fn x = true := by
      rcases hf with z | z
      · exact z
      · rw [z] at hk; cases hk
    obtain ⟨c, hc⟩ := I.ok.has x (.inl hk)
    obtain ⟨w', z⟩ := I.cell x c hc
    refine wpAny_storeName_cell I.ok.kind hk hc z (fun h' hc' hs => ?_)
    obtain ⟨oc, hoc, hocd⟩ := id z
    refine h { s with heap := h' } ⟨I.ok, I.os, I.bare, ⟨fun b o e n hb hx => ?_, fun b o e n hb hx => ?_, I.base.free, fun b o e hx => ?_, I.base.tups, I.base.frzs, I.base.tbls⟩, ⟨m, hn.sameBut hs (Ne.symm (cne x c hc)), fun j y v' e1 e2 e3 => ?_⟩, fun y c' e => ?_, I.free, I.freeC, fun p hp => ?_, tracked ⟨oc, hoc, I.freeC x c hc⟩ hs, by simpa using I.len⟩ ⟨c, hs, .inr hc⟩
    · exact (hs.2 b (Nat.ne_of_lt (Nat.lt_of_lt_of_le (Heap.lt_size e) (I.ok.cab x c hfn hc)))).trans (I.base.keep b o e n hb hx)
    · obtain ⟨sl, e1⟩ := I.base.slot b o e n hb hx
      exact ⟨sl, (hs.2 b (Nat.ne_of_lt (Nat.lt_of_lt_of_le (Heap.lt_size e) (I.ok.cab x c hfn hc)))).trans e1⟩
    · obtain ⟨o', e1⟩ := I.base.there b o e hx
      exact ⟨o', (hs.2 b (Nat.ne_of_lt (Nat.lt_of_lt_of_le (Heap.lt_size e) (I.ok.cab x c hfn hc)))).trans e1⟩
    · by_cases hj : j = i
      · subst hj
        rw [hi] at e1; cases e1
        rw [List.getElem?_set_self hiσ] at e2
        cases e2
        exact ⟨u, r, .inr ⟨.inl hk, c, hc, hc'⟩⟩
      · rw [List.getElem?_set_ne (Ne.symm hj)] at e2
        obtain ⟨u', r', q⟩ := hl j y v' e1 e2 e3
        refine ⟨u', r', ?_⟩
        rcases q with q | ⟨k, c', e, z'⟩
        · exact .inl q
        · refine .inr ⟨k, c', e, z'.sameBut hs ?_⟩
          rintro rfl
          exact hj (nodup_ix hN e1 (I.ok.inj _ _ _ e hc ▸ hi))
    · by_cases hcc : c' = c
      · subst hcc; exact ⟨_, hc'⟩
      · obtain ⟨w2, z2⟩ := I.cell y c' e
        exact ⟨w2, z2.sameBut hs hcc⟩
    · obtain ⟨e, n, ne, nf, d⟩ := I.pin p hp
      refine ⟨(hs.2 p.1 ?_).trans e, n, ne, nf, d⟩
      intro q
      rw [q, hoc] at e
      have q' : oc = p.2 := Option.some.inj e
      exact d w' (by rw [← q']; exact hocd)
theorem store_ok {M : Model} {A : Around} {E : Value → Shared → Prop} {i : Nat} {x : Str} {v : V} {u : Value} {Q : Unit → Shared → Prop} (I : Inv X pins σ H s) (hN : X.N.Nodup) (hi : X.N[i]? = some x) (hx : Loc X.env.scope x) (r : RelV v u)
    (h : ∀ s', Inv X pins (σ.set i (some v)) H s' → Q () s') (hf : X.fn x = true ∨ X.env.scope.names.lookup x = some .local := by first | exact .inl rfl | exact .inr rfl | assumption) : wpAny M A (storeName X.env x u) Q E s :=
  store_ok2 I hN hi hx r (fun s' I' _ => h s' I') hf
theorem Inv.call' {s' : Shared} {ch : List Addr} (I : Inv X pins σ H s) (ho : s'.os = s.os) (u : Un (frs X.stack) ch H H' s.heap s'.heap) (hok : HOk X.prog X.w H' s'.heap) (hg : AllBare s'.gens)
    (hch : ∀ b ∈ ch, (b ∈ X.ex ∨ X.s₀.heap.objs.size ≤ b) ∧ b ≠ X.env.locals ∧ (∀ x c, X.env.cells.lookup x = some c → c ≠ b) ∧ ∀ p ∈ X.pn ++ pins, p.1 ≠ b) : Inv X pins σ H' s' := by
  obtain ⟨h', g', d', t', o'⟩ := s'
  have e : o' = s.os := ho
  subst e
  exact I.call (g' := g') (t' := t') (d' := d') u hok hg hch
end
noncomputable abbrev XK := Value → Option Addr → Hp → Prop
noncomputable abbrev St := List (Option V)
noncomputable abbrev VK := V → Hp → Prop
noncomputable abbrev TE := St → Hp → VK → Prop
noncomputable abbrev TT := St → Hp → (Bool → Hp → Prop) → Prop
noncomputable abbrev TA := St → Hp → (List V → Hp → Prop) → Prop
structure Ends where
  nx : St → Hp → Prop
  rt : VK
  bk : St → Hp → Prop := fun _ _ => False
  ct : St → Hp → Prop := fun _ _ => False
noncomputable abbrev TS := Ends → St → Hp → Prop

noncomputable def EP (X : Cx) (pins : List (Addr × Obj)) (σ : St) (Q : VK) (u : Value) (s' : Shared) : Prop := ∃ v H', Inv X pins σ H' s' ∧ RelV v u ∧ Q v H'
noncomputable def TP (X : Cx) (pins : List (Addr × Obj)) (σ : St) (Q : Bool → Hp → Prop) (b : Bool) (s' : Shared) : Prop := ∃ H', Inv X pins σ H' s' ∧ Q b H'
noncomputable def AP (X : Cx) (pins : List (Addr × Obj)) (σ : St) (Q : List V → Hp → Prop) (us : List Value) (s' : Shared) : Prop := ∃ vs H', Inv X pins σ H' s' ∧ Vals vs us ∧ Q vs H'
noncomputable def SP (X : Cx) (pins : List (Addr × Obj)) (D : Ends) (f : Flow) (s' : Shared) : Prop :=
  match f with
  | .next => ∃ σ' H', Inv X pins σ' H' s' ∧ D.nx σ' H'
  | .brk => ∃ σ' H', Inv X pins σ' H' s' ∧ D.bk σ' H'
  | .cont => ∃ σ' H', Inv X pins σ' H' s' ∧ D.ct σ' H'
  | .ret u => ∃ v σ' H', Inv X pins σ' H' s' ∧ RelV v u ∧ D.rt v H'

noncomputable def PE (X : Cx) (e : Expr) (t : TE) : Prop :=
  ∀ (pins : List (Addr × Obj)) (s : Shared) (σ : St) (H : Hp) (Q : VK), Inv X pins σ H s → t σ H Q → wpAny (model X.prog X.w) X.A (eval e X.env) (EP X pins σ Q) X.xe s
noncomputable def PT (X : Cx) (e : Expr) (t : TT) : Prop :=
  ∀ (pins : List (Addr × Obj)) (s : Shared) (σ : St) (H : Hp) (Q : Bool → Hp → Prop), Inv X pins σ H s → t σ H Q → wpAny (model X.prog X.w) X.A (isTrue e X.env (eval e X.env)) (TP X pins σ Q) X.xe s
noncomputable def PW (X : Cx) (e : Expr) (t : TT) : Prop :=
  ∀ (whole : Sem Value) (pins : List (Addr × Obj)) (s : Shared) (σ : St) (H : Hp) (Q : Bool → Hp → Prop), Inv X pins σ H s → t σ H Q → wpAny (model X.prog X.w) X.A (isTrue e X.env whole) (TP X pins σ Q) X.xe s
theorem PW.pt {X : Cx} {e : Expr} {t : TT} (h : PW X e t) : PT X e t := h _
noncomputable def PA (X : Cx) (es : List Expr) (t : TA) : Prop :=
  ∀ (pos : Pos) (pins : List (Addr × Obj)) (s : Shared) (σ : St) (H : Hp) (Q : List V → Hp → Prop), Inv X pins σ H s → t σ H Q → wpAny (model X.prog X.w) X.A (spliced (backTo pos (starEach es X.env))) (AP X pins σ Q) X.xe s
noncomputable def PS (X : Cx) (st : Stmt) (t : TS) : Prop :=
  ∀ (pins : List (Addr × Obj)) (s : Shared) (σ : St) (H : Hp) (D : Ends), Inv X pins σ H s → t D σ H → wpAny (model X.prog X.w) X.A (exec st X.env) (SP X pins D) X.xe s
noncomputable def PSs (X : Cx) (st : List Stmt) (t : TS) : Prop :=
  ∀ (pins : List (Addr × Obj)) (s : Shared) (σ : St) (H : Hp) (D : Ends), Inv X pins σ H s → t D σ H → wpAny (model X.prog X.w) X.A (execs st X.env) (SP X pins D) X.xe s
theorem thn {α : Type} {t : Sem α} {Q Q' : α → Shared → Prop} {M : Model} {A : Around} {E : Value → Shared → Prop} {s : Shared} (h : wpAny M A t Q E s) (hQ : ∀ a s, Q a s → Q' a s) : wpAny M A t Q' E s := wpAny_mono h hQ fun _ _ x => x
end L2
namespace L2
open PySem PySem.Spec PyProof.Rows
section
variable {X : Cx}
noncomputable def tVar (i : Nat) : TE := fun σ H Q => ∃ v, σ[i]? = some (some v) ∧ Q v H
noncomputable def tC (v : V) : TE := fun _ H Q => Q v H
theorem pe_var {i : Nat} {x : Str} {pos : Pos} (hN : X.N[i]? = some x) (hv : Vis X.env.scope x) (hd : (x == ("__debug__" : Str)) = false := by decide) (hcd : (x == ("__classdict__" : Str)) = false := by decide) : PE X (.Name x pos) (tVar i) := by
  intro pins s σ H Q I h
  obtain ⟨v, e, h⟩ := h
  obtain ⟨m, hn, hl⟩ := I.loc
  obtain ⟨u, r, l⟩ := hl i x v hN e hv
  have fin : EP X pins σ Q u s := ⟨v, H, I, r, h⟩
  rcases l with ⟨hk, hm⟩ | ⟨hk, c, hc, hcell⟩
  · exact wpAny_Name (wpAny_loadName_local I.ok.kind hk hn hm fin) hd
  · rcases hk with hk | hk
    · exact wpAny_Name (wpAny_loadName_cell I.ok.kind hk hc hcell fin) hd
    · exact wpAny_Name (wpAny_loadName_free I.ok.kind hk hc hcell fin hcd) hd
theorem pe_int {i j pos} : PE X (.Constant (.int i) j pos) (tC (.int i)) := fun _ _ _ H _ I h => wpAny_Constant_int ⟨.int i, H, I.tok _, ⟨_, rfl⟩, h⟩
theorem pe_bl {b j pos} : PE X (.Constant (.bool b) j pos) (tC (.bl b)) := fun _ _ _ H _ I h => Constant_bool ⟨.bl b, H, I, rfl, h⟩
theorem pe_non {j pos} : PE X (.Constant .none j pos) (tC .non) := fun _ _ _ H _ I h => Constant_none ⟨.non, H, I, rfl, h⟩
theorem pe_str {x j pos} : PE X (.Constant (.str x) j pos) (tC (.str x)) := fun _ _ _ H _ I h => Calls.Constant_str ⟨.str x, H, I.tok _, ⟨_, rfl⟩, h⟩

noncomputable def Gl (X : Cx) (x : Str) : Prop := X.env.kindOf x = some .globalImplicit
theorem ld_glob {E : Value → Shared → Prop} {pins : List (Addr × Obj)} {s : Shared} {σ : St} {H : Hp} {x : Str} {u : Value} {pos : Pos} {Q : Value → Shared → Prop} (I : Inv X pins σ H s) (hg : Gl X x) (hm : X.mg x = some u) (h : Q u s)
    (hd : (x == ("__debug__" : Str)) = false := by decide) : wpAny (model X.prog X.w) X.A (eval (.Name x pos) X.env) Q E s :=
  Calls.Name_function_global I.ok.kind hg (Calls.loadGlobal_global (by rw [I.ok.glob]; exact I.mod.glob.keeps I.bk) hm h) hd
theorem ld_blt {E : Value → Shared → Prop} {pins : List (Addr × Obj)} {s : Shared} {σ : St} {H : Hp} {x : Str} {u : Value} {pos : Pos} {Q : Value → Shared → Prop} (I : Inv X pins σ H s) (hg : Gl X x) (hm : X.mg x = none) (hv : bootBuiltins x = some u) (h : Q u s)
    (hn : x ≠ "__name__" := by decide) (hd : (x == ("__debug__" : Str)) = false := by decide) : wpAny (model X.prog X.w) X.A (eval (.Name x pos) X.env) Q E s := by
  obtain ⟨mb, h1, h2⟩ := I.mod.blt
  exact Calls.Name_function_global I.ok.kind hg (Calls.loadGlobal_builtin (by rw [I.ok.glob]; exact I.mod.glob.keeps I.bk) hm (by rw [I.ok.blt]; exact h1.keeps I.bk) ((h2 x hn).trans hv) h) hd
theorem pe_bltn {x : Str} {v : V} {u : Value} {pos : Pos} (hg : Gl X x) (hm : X.mg x = none) (hv : bootBuiltins x = some u) (r : RelV v u) (hn : x ≠ "__name__" := by decide) (hd : (x == ("__debug__" : Str)) = false := by decide) : PE X (.Name x pos) (tC v) :=
  fun _ _ _ H _ I h => ld_blt I hg hm hv ⟨v, H, I, r, h⟩ hn hd

variable {a b : Expr} {ta tb : TE} {pos : Pos}
noncomputable def tB (t : TE) : TT := fun σ H Q => t σ H fun x H1 => ∃ c, x = .bl c ∧ Q c H1
theorem pt_val {e : Expr} {t : TE} (h : PE X e t) (he : ∀ whole, isTrue e X.env whole = (do let v ← whole; standAt e.pos; holding [v] (truthy v)) := by intro _; rfl) : PT X e (tB t) := by
  intro pins s σ H Q I hw
  refine isTrue_plain (thn (h pins s σ H _ I hw) fun v s1 ⟨x, H1, I1, r1, q1⟩ => ?_) (he _)
  obtain ⟨d, rfl, q⟩ := q1
  cases r1
  exact wpAny_truthy_bool ⟨H1, I1, q⟩

variable {tA tB' : TT} {rest : List Expr}
noncomputable def tAnd (t u : TT) : TT := fun σ H Q => t σ H fun c H1 => if c = true then u σ H1 Q else Q false H1
noncomputable def tOr (t u : TT) : TT := fun σ H Q => t σ H fun c H1 => if c = true then Q true H1 else u σ H1 Q
noncomputable def tNot (t : TT) : TT := fun σ H Q => t σ H fun c H1 => Q (!c) H1
theorem pw_and1 (ha : PT X a tA) : PW X (.BoolOp .And [a] pos) tA := by
  intro wh pins s σ H Q I h
  refine isTrue_and (thn (ha pins s σ H Q I h) fun c s1 e => ?_)
  cases c with
  | true => exact isTrue_and_nil e
  | false => exact e
theorem pw_or1 (ha : PT X a tA) : PW X (.BoolOp .Or [a] pos) tA := by
  intro wh pins s σ H Q I h
  refine isTrue_or (thn (ha pins s σ H Q I h) fun c s1 e => ?_)
  cases c with
  | false => exact isTrue_or_nil e
  | true => exact e
theorem pw_and (ha : PT X a tA) (hb : PW X (.BoolOp .And (b :: rest) pos) tB') : PW X (.BoolOp .And (a :: b :: rest) pos) (tAnd tA tB') := by
  intro wh pins s σ H Q I h
  refine isTrue_and (thn (ha pins s σ H _ I h) fun c s1 ⟨H1, I1, q1⟩ => ?_)
  cases c with
  | true => exact hb wh pins s1 σ H1 Q I1 q1
  | false => exact ⟨H1, I1, q1⟩
theorem pw_or (ha : PT X a tA) (hb : PW X (.BoolOp .Or (b :: rest) pos) tB') : PW X (.BoolOp .Or (a :: b :: rest) pos) (tOr tA tB') := by
  intro wh pins s σ H Q I h
  refine isTrue_or (thn (ha pins s σ H _ I h) fun c s1 ⟨H1, I1, q1⟩ => ?_)
  cases c with
  | true => exact ⟨H1, I1, q1⟩
  | false => exact hb wh pins s1 σ H1 Q I1 q1
theorem pt_not (ha : PT X a tA) : PT X (.UnaryOp .Not a pos) (tNot tA) := by
  intro pins s σ H Q I h
  exact isTrue_not (ha pins s σ H (fun c H1 => Q (!c) H1) I h)
noncomputable def tAndV (ta tb : TE) : TE := fun σ H Q => ta σ H fun x H1 => ∃ c, x = .bl c ∧ if c = true then tb σ H1 Q else Q (.bl false) H1
noncomputable def tOrV (ta tb : TE) : TE := fun σ H Q => ta σ H fun x H1 => ∃ c, x = .bl c ∧ if c = true then Q (.bl true) H1 else tb σ H1 Q
theorem pe_one {op} {t : TE} (h : PE X a t) : PE X (.BoolOp op [a] pos) t := fun pins s σ H Q I hw => BoolOp_one (h pins s σ H Q I hw)
theorem pe_and (ha : PE X a ta) (hb : PE X (.BoolOp .And (b :: rest) pos) tb) : PE X (.BoolOp .And (a :: b :: rest) pos) (tAndV ta tb) := by
  intro pins s σ H Q I h
  refine BoolOp_and (thn (ha pins s σ H _ I h) fun v s1 ⟨x, H1, I1, r1, q1⟩ => ?_)
  obtain ⟨c, rfl, q1⟩ := q1
  cases r1
  refine wpAny_truthy_bool ?_
  cases c with
  | true => exact hb pins s1 σ H1 Q I1 q1
  | false => exact ⟨.bl false, H1, I1, rfl, q1⟩
theorem pe_or (ha : PE X a ta) (hb : PE X (.BoolOp .Or (b :: rest) pos) tb) : PE X (.BoolOp .Or (a :: b :: rest) pos) (tOrV ta tb) := by
  intro pins s σ H Q I h
  refine BoolOp_or (thn (ha pins s σ H _ I h) fun v s1 ⟨x, H1, I1, r1, q1⟩ => ?_)
  obtain ⟨c, rfl, q1⟩ := q1
  cases r1
  refine wpAny_truthy_bool ?_
  cases c with
  | false => exact hb pins s1 σ H1 Q I1 q1
  | true => exact ⟨.bl true, H1, I1, rfl, q1⟩
end
end L2
namespace L2
open PySem PySem.Spec PyProof.Rows
noncomputable def SqL (K : PySem.W.Frag) (H : Hp) (a : Addr) (xs : List V) : Prop :=
  Rd H a (.lst xs) ∨
    ∃ (o : Obj) (its : Array Value) (n : Nat), K.lookup a = some o ∧ o.cls = .type "list" ∧ o.dict = none ∧ o.data = .seq its n ∧ its.size ≤ sizeLine ∧ Vals xs its.toList
noncomputable def SqT (K : PySem.W.Frag) (H : Hp) (a : Addr) (xs : List V) : Prop :=
  Rd H a (.tup xs) ∨
    ∃ (o : Obj) (its : Array Value) (n : Nat), K.lookup a = some o ∧ o.cls = .type "tuple" ∧ o.data = .seq its n ∧ its.size ≤ sizeLine ∧ Vals xs its.toList
noncomputable def absV : Value → Option V
  | .none => some .non
  | .bool b => some (.bl b)
  | .int i _ => some (.int i)
  | .str x _ => some (.str x)
  | .bytes b _ => some (.byt b)
  | .float b _ => some (.flt b)
  | .ref a => some (.ref a)
  | .type n => some (.ty n)
  | _ => none
theorem RelV.abs {x : V} {u : Value} (r : RelV x u) : absV u = some x := by
  cases x with
  | non => cases r; rfl
  | bl _ => cases r; rfl
  | int _ => obtain ⟨t, rfl⟩ := r; rfl
  | str _ => obtain ⟨t, rfl⟩ := r; rfl
  | byt _ => obtain ⟨t, rfl⟩ := r; rfl
  | flt _ => obtain ⟨t, rfl⟩ := r; rfl
  | ref _ => cases r; rfl
  | ty _ => cases r; rfl
theorem RelV.inj {x y : V} {u : Value} (r : RelV x u) (q : RelV y u) : x = y := Option.some.inj (r.abs.symm.trans q.abs)
theorem Vals.inj : ∀ {xs ys : List V} {us : List Value}, Vals xs us → Vals ys us → xs = ys
  | _, _, _, .nil, .nil => rfl
  | _, _, _, .cons r t, .cons r' t' => by rw [r.inj r', Vals.inj t t']
section
variable {X : Cx} {pins : List (Addr × Obj)} {σ : St} {H : Hp} {s : Shared} {a : Addr} {xs ys : List V}
theorem SqL.of {K : PySem.W.Frag} (h : H a = some (.lst xs)) : SqL K H a xs := .inl (.inl h)
theorem SqT.of {K : PySem.W.Frag} (h : H a = some (.tup xs)) : SqT K H a xs := .inl (.inl h)
theorem Inv.list (I : Inv X pins σ H s) (h : SqL X.K H a xs) : ∃ its : List Value, Vals xs its ∧ PlainL s.heap a its.toArray ∧ xs.length ≤ sizeLine := by
  rcases h with h | ⟨o, its, n, hk, hc, hd, hs, hz, r⟩
  · obtain ⟨z, its, n, r, e⟩ := h.ok I.hok
    exact ⟨its, r, ⟨_, n, e, rfl, rfl, rfl⟩, z⟩
  · refine ⟨its.toList, r, ⟨o, n, I.kIn a o hk, hc, hd, by simpa using hs⟩, ?_⟩
    have e := r.length
    simp only [Array.length_toList] at e
    omega
theorem Inv.tuple (I : Inv X pins σ H s) (h : SqT X.K H a xs) : ∃ its : List Value, Vals xs its ∧ IsTup s.heap a its.toArray ∧ xs.length ≤ sizeLine := by
  rcases h with h | ⟨o, its, n, hk, hc, hs, hz, r⟩
  · obtain ⟨z, its, r, p⟩ := h.ok I.hok
    exact ⟨its, r, p, z⟩
  · refine ⟨its.toList, r, ⟨o, I.kIn a o hk, hc, n, by simpa using hs⟩, ?_⟩
    have e := r.length
    simp only [Array.length_toList] at e
    omega
theorem Inv.list_inj (I : Inv X pins σ H s) (h : SqL X.K H a xs) (h' : SqL X.K H a ys) : xs = ys := by
  obtain ⟨its, r, ⟨o, n, e, _, _, d⟩, _⟩ := I.list h
  obtain ⟨its', r', ⟨o', n', e', _, _, d'⟩, _⟩ := I.list h'
  rw [e] at e'; cases e'
  rw [d] at d'
  injection d' with d1 _
  have : its = its' := by simpa using congrArg Array.toList d1
  subst this
  exact r.inj r'
end
noncomputable abbrev Cx.wish (X : Cx) (E : Value → Shared → Prop) : Cx := { X with xe := E }
noncomputable abbrev Cx.nox (X : Cx) : Cx := X.wish fun _ _ => False
theorem Cx.Ok.wish {X : Cx} (ok : X.Ok) (E : Value → Shared → Prop) : (X.wish E).Ok :=
  ⟨ok.mod, ok.kind, ok.glob, ok.blt, ok.above, ok.inj, ok.has, ok.cab, ok.hd, ok.frames, ok.stk, ok.exf, ok.bs, ok.bsz, ok.noex, ok.exfs, ok.funs, ok.frf⟩
theorem Cx.Ok.unwish {X : Cx} {E : Value → Shared → Prop} (ok : (X.wish E).Ok) : X.Ok :=
  ⟨ok.mod, ok.kind, ok.glob, ok.blt, ok.above, ok.inj, ok.has, ok.cab, ok.hd, ok.frames, ok.stk, ok.exf, ok.bs, ok.bsz, ok.noex, ok.exfs, ok.funs, ok.frf⟩
section
variable {X : Cx} {pins : List (Addr × Obj)} {σ : St} {H : Hp} {s : Shared} {E : Value → Shared → Prop}
theorem Inv.wish (I : Inv X pins σ H s) (E : Value → Shared → Prop) : Inv (X.wish E) pins σ H s := ⟨I.ok.wish E, I.os, I.bare, I.base, I.loc, I.cell, I.free, I.freeC, I.pin, I.hok, I.len⟩
theorem Inv.unwish (I : Inv (X.wish E) pins σ H s) : Inv X pins σ H s := ⟨I.ok.unwish, I.os, I.bare, I.base, I.loc, I.cell, I.free, I.freeC, I.pin, I.hok, I.len⟩
theorem SP.unwish {D : Ends} {f : Flow} {s' : Shared} (h : SP (X.wish E) pins D f s') : SP X pins D f s' := by
  cases f with
  | next => obtain ⟨σ', H', I, q⟩ := h; exact ⟨σ', H', I.unwish, q⟩
  | brk => obtain ⟨σ', H', I, q⟩ := h; exact ⟨σ', H', I.unwish, q⟩
  | cont => obtain ⟨σ', H', I, q⟩ := h; exact ⟨σ', H', I.unwish, q⟩
  | ret u => obtain ⟨v, σ', H', I, r, q⟩ := h; exact ⟨v, σ', H', I.unwish, r, q⟩
theorem PSs.nox {st : List Stmt} {t : TS} (h : PSs X.nox st t) : PSs X st t := fun pins s σ H D I hw =>
  wpAny_mono (h pins s σ H D (I.wish _) hw) (fun _ _ q => q.unwish) fun _ _ z => False.elim z
end
section
variable {X : Cx} {st : Stmt} {rest : List Stmt} {t u : TS} {e : Expr} {te : TE} {pos : Pos}
noncomputable def tNext : TS := fun D σ H => D.nx σ H
noncomputable def tSeq (t u : TS) : TS := fun D σ H => t { D with nx := u D } σ H
theorem pss_nil : PSs X [] tNext := fun _ _ σ H _ I h => wpAny_execs_nil ⟨σ, H, I, h⟩
theorem pss_cons (h1 : PS X st t) (h2 : PSs X rest u) : PSs X (st :: rest) (tSeq t u) := by
  intro pins s σ H D I h
  refine wpAny_execs_cons (thn (h1 pins s σ H { D with nx := u D } I h) fun f s1 q => ?_)
  cases f with
  | next =>
    obtain ⟨σ', H', I', q⟩ := q
    exact h2 pins s1 σ' H' D I' q
  | ret v => exact q
  | brk => exact q
  | cont => exact q
theorem pss_one (h1 : PS X st t) : PSs X [st] t := by
  intro pins s σ H D I h
  refine wpAny_execs_cons (thn (h1 pins s σ H D I h) fun f s1 q => ?_)
  cases f with
  | next => exact wpAny_execs_nil q
  | ret v => exact q
  | brk => exact q
  | cont => exact q
noncomputable def tCont : TS := fun D σ H => D.ct σ H
theorem ps_continue : PS X (.Continue pos) tCont := fun _ _ σ H _ I h => wpAny_Continue ⟨σ, H, I, h⟩
theorem Inv.quiet {pins : List (Addr × Obj)} {σ : St} {H : Hp} {s : Shared} (I : Inv X pins σ H s) : interactive X.env = false := by simp [interactive, I.ok.kind]
noncomputable def tDrop (te : TE) : TS := fun D σ H => te σ H fun _ H1 => D.nx σ H1
theorem ps_expr (he : PE X e te) (hs : swapsWith e none pos.line X.env = pure false := by rfl) : PS X (.Expr e pos) (tDrop te) := by
  intro pins s σ H D I h
  exact wpAny_Expr_any (thn (he pins s σ H _ I h) fun v s1 ⟨x, H1, I1, r1, q1⟩ => ⟨σ, H1, I1, q1⟩) I.quiet hs
noncomputable def tRet (te : TE) : TS := fun D σ H => te σ H D.rt
theorem ps_ret (he : PE X e te) : PS X (.Return (some e) pos) (tRet te) := by
  intro pins s σ H D I h
  exact wpAny_Return_some (thn (he pins s σ H _ I h) fun v s1 ⟨x, H1, I1, r1, q1⟩ => ⟨x, σ, H1, I1, r1, q1⟩)
noncomputable def tIfS (c : TT) (t u : TS) : TS := fun D σ H => c σ H fun b H1 => if b = true then t D σ H1 else u D σ H1
theorem ps_if {c : Expr} {a b : List Stmt} {tc : TT} (hc : PT X c tc) (ha : PSs X a t) (hb : PSs X b u) : PS X (.If c a b pos) (tIfS tc t u) := by
  intro pins s σ H D I h
  refine wpAny_If (thn (hc pins s σ H _ I h) fun d s1 ⟨H1, I1, q1⟩ => ?_)
  cases d with
  | true => exact ha pins s1 σ H1 D I1 q1
  | false => exact hb pins s1 σ H1 D I1 q1
end
noncomputable abbrev TG := V → St → Hp → (St → Hp → Prop) → Prop
noncomputable abbrev TGs := List V → St → Hp → (St → Hp → Prop) → Prop
noncomputable def PG (X : Cx) (target : Expr) (t : TG) : Prop :=
  ∀ (pins : List (Addr × Obj)) (s : Shared) (σ : St) (H : Hp) (v : V) (u : Value) (Q : St → Hp → Prop), Inv X pins σ H s → RelV v u → t v σ H Q →
    wpAny (model X.prog X.w) X.A (assign target X.env u) (fun _ s' => ∃ σ' H', Inv X pins σ' H' s' ∧ Q σ' H') X.xe s
noncomputable def PGs (X : Cx) (ts : List Expr) (t : TGs) : Prop :=
  ∀ (pins : List (Addr × Obj)) (s : Shared) (σ : St) (H : Hp) (vs : List V) (us : List Value) (Q : St → Hp → Prop), Inv X pins σ H s → Vals vs us → t vs σ H Q →
    wpAny (model X.prog X.w) X.A (assignInOrder ((assignEach ts X.env).map (·.2)) us) (fun _ s' => ∃ σ' H', Inv X pins σ' H' s' ∧ Q σ' H') X.xe s
noncomputable abbrev TSet := V → V → V → Hp → (Hp → Prop) → Prop
noncomputable def PSet (X : Cx) (t : TSet) : Prop :=
  ∀ (pins : List (Addr × Obj)) (s : Shared) (σ : St) (H : Hp) (o i v : V) (ov iv u : Value) (Q : Hp → Prop), Inv X pins σ H s → RelV o ov → RelV i iv → RelV v u → t o i v H Q →
    wpAny (model X.prog X.w) X.A (setItem ov iv u) (fun _ s' => ∃ H', Inv X pins σ H' s' ∧ Q H') X.xe s
section
variable {X : Cx} {pos : Pos}
noncomputable def gName (i : Nat) : TG := fun v σ H Q => Q (σ.set i (some v)) H
theorem pg_name {i : Nat} {x : Str} (hN : X.N.Nodup) (hi : X.N[i]? = some x) (hx : Loc X.env.scope x) (hf : X.fn x = true ∨ X.env.scope.names.lookup x = some .local := by first | exact .inl rfl | exact .inr rfl | assumption) : PG X (.Name x pos) (gName i) := by
  intro pins s σ H v u Q I r h
  exact wpAny_assign_Name (store_ok I hN hi hx r (fun s' I' => ⟨_, H, I', h⟩) hf)
noncomputable def gNil : TGs := fun vs σ H Q => vs = [] ∧ Q σ H
noncomputable def gCons (t : TG) (u : TGs) : TGs := fun vs σ H Q => ∃ v r, vs = v :: r ∧ t v σ H fun σ' H' => u r σ' H' Q
theorem pgs_nil : PGs X [] gNil := by
  intro pins s σ H vs us Q I r h
  obtain ⟨e, h⟩ := h
  subst e
  cases r
  exact assignInOrder_nil ⟨σ, H, I, h⟩
theorem pgs_cons {e : Expr} {es : List Expr} {t : TG} {u : TGs} (h1 : PG X e t) (h2 : PGs X es u)
    (hs : (assignEach (e :: es) X.env).map (·.2) = assign e X.env :: (assignEach es X.env).map (·.2) := by rfl) : PGs X (e :: es) (gCons t u) := by
  intro pins s σ H vs us Q I r h
  obtain ⟨v, vr, e1, h⟩ := h
  subst e1
  cases r with
  | cons r rr =>
    rw [hs]
    refine assignInOrder_cons (thn (h1 pins s σ H _ _ _ I r h) fun _ s1 ⟨σ1, H1, I1, q1⟩ => ?_)
    exact h2 pins s1 σ1 H1 _ _ Q I1 rr q1
noncomputable def gTup (K : PySem.W.Frag) (n : Nat) (t : TGs) : TG := fun v σ H Q => ∃ a xs, v = .ref a ∧ SqT K H a xs ∧ xs.length = n ∧ t xs σ H Q
theorem pg_tup {es : List Expr} {k : Nat} {t : TGs} {n : Nat} (hc : X.calm = true) (h : PGs X es t)
    (hn : (assignEach es X.env).length = n := by rfl) (hst : (assignEach es X.env).findIdx? (·.1) = none := by rfl) : PG X (.Tuple es k pos) (gTup X.K n t) := by
  intro pins s σ H v u Q I r hw
  obtain ⟨a, xs, e1, hq, hl, hw⟩ := hw
  subst e1
  cases r
  obtain ⟨its, rv, ht, hz⟩ := I.tuple hq
  refine assign_Tuple_tuple (I.ok.hd hc) ht (by simp [hn, ← hl, rv.length]) hst fun h' hx => ?_
  have I1 : Inv X pins σ H { s with heap := h' } := I.kept (t' := s.toks) fun b o e => hx b o (Nat.ne_of_lt (Heap.lt_size e)) e
  exact h pins _ σ H xs _ Q I1 (by simpa using rv) hw
noncomputable def gSub (to ti : TE) (t : TSet) : TG := fun v σ H Q => to σ H fun o H1 => ti σ H1 fun i H2 => t o i v H2 fun H3 => Q σ H3
theorem pg_sub {o i : Expr} {to ti : TE} {t : TSet} (ho : PE X o to) (hi : PE X i ti) (hs : PSet X t)
    (ha : ∀ v, assign (.Subscript o i pos) X.env v = (do
      let ov ← holding [v] (eval o X.env)
      let iv ← holding [v, ov] (eval i X.env)
      standAt pos
      holding [v, ov, iv] (setItem ov iv v)
      release [v, ov, iv] []) := by intro _; rfl) : PG X (.Subscript o i pos) (gSub to ti t) := by
  intro pins s σ H v u Q I r h
  rw [ha]
  refine wpAny_bind (wpAny_holding (thn (ho pins s σ H _ I h) fun ov s1 ⟨x, H1, I1, r1, q1⟩ => ?_))
  refine wpAny_bind (wpAny_holding (thn (hi pins s1 σ H1 _ I1 q1) fun iv s2 ⟨y, H2, I2, r2, q2⟩ => ?_))
  refine wpAny_bind (wpAny_standAt (wpAny_bind (wpAny_holding (thn (hs pins s2 σ H2 x y v ov iv u _ I2 r1 r2 r q2) fun _ s3 ⟨H3, I3, q3⟩ => ?_))))
  exact wpAny_release ⟨σ, H3, I3, q3⟩
noncomputable def tAsg (te : TE) (g : TG) : TS := fun D σ H => te σ H fun x H1 => g x σ H1 D.nx
theorem ps_asg {tg e : Expr} {te : TE} {g : TG} (he : PE X e te) (hg : PG X tg g) (hs : swapsWithSole [tg] e pos.line X.env = pure false := by rfl) (hw : swappedStores [tg] e X.env = pure none := by rfl)
    (h1 : (assignEach [tg] X.env).map (·.2) = [assign tg X.env] := by rfl) : PS X (.Assign [tg] e pos) (tAsg te g) := by
  intro pins s σ H D I h
  refine wpAny_Assign_stores (thn (he pins s σ H _ I h) fun v s1 ⟨x, H1, I1, r1, q1⟩ => ?_) hs hw
  rw [h1]
  exact thn (hg pins s1 σ H1 x v _ I1 r1 q1) fun _ s2 q => q
theorem ps_set {i : Nat} {x : Str} {e : Expr} {te : TE} {pos' : Pos} (hN : X.N.Nodup) (hi : X.N[i]? = some x) (hx : Loc X.env.scope x) (he : PE X e te) (hs : swapsWith e (some (.Name x pos')) pos.line X.env = pure false := by rfl) (hf : X.fn x = true ∨ X.env.scope.names.lookup x = some .local := by first | exact .inl rfl | exact .inr rfl | assumption) :
    PS X (.Assign [.Name x pos'] e pos) (tAsg te (gName i)) := by
  intro pins s σ H D I h
  refine wpAny_Assign_Name (thn (he pins s σ H _ I h) fun v s1 ⟨y, H1, I1, r1, q1⟩ => ?_) hs
  exact store_ok I1 hN hi hx r1 (fun s2 I2 => ⟨_, H1, I2, q1⟩) hf
end
section
variable {X : Cx} {pos : Pos}
noncomputable def tWhile (c : TT) (tb : TS) : TS := fun D σ H => ∃ W : Nat → St → Hp → Prop, (∃ m, W m σ H) ∧ ∀ m σ H, W m σ H →
  c σ H fun b H1 => if b = true then ∃ N : St → Hp → Prop, (∀ σ' H', N σ' H' → ∃ m', m' < m ∧ W m' σ' H') ∧ tb { D with nx := N, ct := N, bk := D.nx } σ H1 else D.nx σ H1
theorem ps_while {c : Expr} {body : List Stmt} {tc : TT} {tb : TS} (hp : PassesOwn (model X.prog X.w) X.A X.env X.xe) (hc : PT X c tc) (hb : PSs X body tb) : PS X (.While c body [] pos) (tWhile tc tb) := by
  intro pins s σ H D I h
  obtain ⟨W, ⟨m0, w0⟩, turn⟩ := h
  refine wpAny_While (codeAny_whileLoop (fun n s' => ∃ σ' H', Inv X pins σ' H' s' ∧ W n σ' H') ?_ m0 ⟨σ, H, I, w0⟩)
  rintro n s1 ⟨σ1, H1, I1, w1⟩
  refine wpAny_passesOwn hp (thn (hc pins s1 σ1 H1 _ I1 (turn n σ1 H1 w1)) fun b s2 ⟨H2, I2, q2⟩ => ?_)
  cases b with
  | true =>
    obtain ⟨N, hN, q2⟩ := q2
    rw [if_pos rfl]
    refine wpAny_passesOwn hp (thn (hb pins s2 σ1 H2 _ I2 q2) fun f s3 q3 => ?_)
    cases f with
    | next =>
      obtain ⟨σ3, H3, I3, n3⟩ := q3
      obtain ⟨m', hm, w3⟩ := hN σ3 H3 n3
      exact ⟨m', hm, σ3, H3, I3, w3⟩
    | cont =>
      obtain ⟨σ3, H3, I3, n3⟩ := q3
      obtain ⟨m', hm, w3⟩ := hN σ3 H3 n3
      exact ⟨m', hm, σ3, H3, I3, w3⟩
    | brk => exact q3
    | ret v => exact q3
  | false =>
    rw [if_neg Bool.false_ne_true]
    exact wpAny_execs_nil ⟨σ1, H2, I2, q2⟩
end
structure It where
  go : Nat → Hp → Prop
  yld : Nat → Hp → V → Hp → Prop
  stop : Nat → Hp → Prop
noncomputable def FpOk (X : Cx) (pins : List (Addr × Obj)) (H : Hp) (b : Addr) : Prop :=
  H b = none ∧ b ≠ X.env.locals ∧ b ∉ X.fs ∧ (b ∈ X.ex ∨ X.s₀.heap.objs.size ≤ b) ∧ (∀ x c, X.env.cells.lookup x = some c → c ≠ b) ∧ ∀ p ∈ X.pn ++ pins, p.1 ≠ b
theorem Inv.fpOk {X : Cx} {pins : List (Addr × Obj)} {σ : St} {H H' : Hp} {s : Shared} {b : Addr} (I : Inv X pins σ H s) (hb : s.heap.objs.size ≤ b) (hn : H' b = none) : FpOk X pins H' b := by
  refine ⟨hn, Nat.ne_of_gt (Nat.lt_of_lt_of_le I.lt hb), I.nofs hb, .inr (Nat.le_trans I.sz hb), fun x c e z => ?_, fun p hp z => ?_⟩
  · obtain ⟨v, q⟩ := I.cell x c e
    exact absurd (Nat.lt_of_lt_of_le q.lt (by rw [z]; exact hb)) (Nat.lt_irrefl _)
  · exact absurd (Nat.lt_of_lt_of_le (Heap.lt_size (I.pin p hp).1) (by rw [z]; exact hb)) (Nat.lt_irrefl _)
structure Turn (P : Program) (w : World) (K : PySem.W.Frag) (tg : Expr) (J : It) (fp : List Addr) (it : Addr) (tn : Nat → Heap → Prop) : Prop where
  mem : it ∈ fp
  obj : ∀ i h, tn i h → ∀ b ∈ fp, ∃ o, h.get? b = some o ∧ ∀ v, o.data ≠ .cell v
  keep : ∀ i h h', tn i h → (∀ b ∈ fp, ∀ o, h.get? b = some o → h'.get? b = some o) → tn i h'
  item : ∀ (X : Cx), X.prog = P → X.w = w → X.K = K → X.calm = true → ∀ (i : Nat) (pins : List (Addr × Obj)) (s : Shared) (σ : St) (H : Hp) (E : Value → Shared → Prop), Inv X pins σ H s → (∀ b ∈ fp, FpOk X pins H b) → tn i s.heap → J.go i H →
    wpAny (model P w) X.A (pyNext (.ref it)) (fun r s1 => ∃ u, r = some u ∧
      wpAny (model P w) X.A (letOwnedTupleGo tg (.ref it) u) (fun _ s2 => ∃ x H', Inv X pins σ H' s2 ∧ RelV x u ∧ J.yld i H x H' ∧ tn (i + 1) s2.heap ∧ ∀ b ∈ fp, H' b = none) E s1) E s
  done : ∀ (X : Cx), X.prog = P → X.w = w → X.K = K → X.calm = true → ∀ (i : Nat) (pins : List (Addr × Obj)) (s : Shared) (σ : St) (H : Hp) (E : Value → Shared → Prop), Inv X pins σ H s → (∀ b ∈ fp, FpOk X pins H b) → tn i s.heap → J.stop i H →
    wpAny (model P w) X.A (pyNext (.ref it)) (fun r s1 => r = none ∧ Inv X pins σ H s1) E s
  self : ∀ (A : Around) (i : Nat) (s : Shared) (Q : Value → Shared → Prop) (E : Value → Shared → Prop), tn i s.heap → Q (.ref it) s → wpAny (model P w) A (pyIter (.ref it)) Q E s
noncomputable abbrev TI := St → Hp → (It → Hp → Prop) → Prop
noncomputable def PIE (X : Cx) (pins : List (Addr × Obj)) (σ : St) (tg : Expr) (R : It → Hp → Prop) (itv : Value) (s2 : Shared) : Prop :=
  ∃ (it : Addr) (fp : List Addr) (tn : Nat → Heap → Prop) (J : It) (H' : Hp), itv = .ref it ∧ Inv X pins σ H' s2 ∧ Turn X.prog X.w X.K tg J fp it tn ∧ tn 0 s2.heap ∧ (∀ b ∈ fp, FpOk X pins H' b) ∧ R J H'
noncomputable def PI (X : Cx) (tg iter : Expr) (wi : TI) : Prop :=
  ∀ (pins : List (Addr × Obj)) (s : Shared) (σ : St) (H : Hp) (R : It → Hp → Prop), Inv X pins σ H s → wi σ H R →
    wpAny (model X.prog X.w) X.A (eval iter X.env) (fun v s1 => wpAny (model X.prog X.w) X.A (pyIter v) (PIE X pins σ tg R) X.xe s1) X.xe s

theorem go_of {M : Model} {A : Around} {E : Value → Shared → Prop} {s : Shared} {tg : Expr} {it : Addr} {u : Value} {o : Obj} {n : String} {vs : Array Value} {Q : Unit → Shared → Prop} (ho : s.heap.get? it = some o) (hc : o.cls = .type n) (hd : o.data = .fields vs)
    (hn : ["enumerate", "zip", "dict_itemiterator", "dict_reverseitemiterator", "odict_iterator", "itertools.zip_longest", "itertools.pairwise"].contains n = false) (hQ : Q () s) : wpAny M A (letOwnedTupleGo tg (.ref it) u) Q E s := by
  unfold letOwnedTupleGo
  cases tg <;> first
    | exact wpAny_pure hQ
    | (cases u <;> first
        | exact wpAny_pure hQ
        | (refine wpAny_bind (wpAny_load ho ?_)
           rw [hc, hd]
           show wpAny M A (if (["enumerate", "zip", "dict_itemiterator", "dict_reverseitemiterator", "odict_iterator", "itertools.zip_longest", "itertools.pairwise"].contains n && vs[0]? == some (rawInt _)) = true then _ else _) Q E s
           rw [if_neg (by intro h; rw [hn, Bool.false_and] at h; cases h)]
           exact wpAny_pure hQ))

noncomputable def Itl (K : PySem.W.Frag) (a : Addr) : It :=
  ⟨fun i H => ∃ xs x, SqL K H a xs ∧ xs[i]? = some x, fun i H x H' => H' = H ∧ ∀ xs, SqL K H a xs → xs[i]? = some x, fun i H => ∃ xs, SqL K H a xs ∧ xs.length ≤ i⟩
noncomputable def Itr (lo : Int) (n : Nat) : It := ⟨fun i _ => i < n, fun i H x H' => H' = H ∧ x = .int (lo + i), fun i _ => n ≤ i⟩
theorem turn_list {P : Program} {w : World} {K : PySem.W.Frag} {tg : Expr} (a it : Addr) : Turn P w K tg (Itl K a) [it] it (fun i h => h.IsListIter it a i) where
  mem := by simp
  obj := fun i h st b hb => by
    have e : b = it := by simpa using hb
    subst e
    obtain ⟨o, e, c, d⟩ := st
    exact ⟨o, e, fun v z => by rw [d] at z; cases z⟩
  keep := fun i h h' st k => st.at fun o e => k it (by simp) o e
  item := by
    intro X hP hw hK hc i pins s σ H E I hf st hg
    subst hP hw hK
    obtain ⟨xs, x, hq, hx⟩ := hg
    obtain ⟨its, rv, p, hz⟩ := I.list hq
    obtain ⟨u, hu, ru⟩ := rv.get hx
    obtain ⟨f0, f1, f2, f3, f4, f5⟩ := hf it (by simp)
    refine wpAny_pyNext_list_item st p.isList (x := u) (by simpa using hu) fun h' st' sb => ?_
    have I1 : Inv X pins σ H { s with heap := h' } := I.turned (t' := s.toks) (fun b o hb e => (sb.2 b hb).trans e) f0 f1 f3 f4 f5
    obtain ⟨o, e, c, d⟩ := id st'
    exact ⟨u, rfl, go_of (s := { s with heap := h' }) e c d (by decide) ⟨x, H, I1, ru, ⟨rfl, fun ys hy => by rw [I.list_inj hy hq]; exact hx⟩, st', fun b hb => (hf b hb).1⟩⟩
  done := by
    intro X hP hw hK hc i pins s σ H E I hf st hg
    subst hP hw hK
    obtain ⟨xs, hq, hx⟩ := hg
    obtain ⟨its, rv, p, hz⟩ := I.list hq
    obtain ⟨f0, f1, f2, f3, f4, f5⟩ := hf it (by simp)
    have hl := rv.length
    exact wpAny_pyNext_list_end (I.ok.hd hc) st p.isList (by simp; omega) fun h' eb => ⟨rfl, I.turned (t' := s.toks) (fun b o hb e => eb b o hb e) f0 f1 f3 f4 f5⟩
  self := fun _ _ _ _ _ st h => wpAny_pyIter_listiter st h
theorem turn_range {P : Program} {w : World} {K : PySem.W.Frag} {tg : Expr} (it : Addr) (lo : Int) (n : Nat) : Turn P w K tg (Itr lo n) [it] it (fun i h => IsRangeIter h it (lo + (i : Nat) * 1) ((n : Int) - (i : Nat)) 1) where
  mem := by simp
  obj := fun i h st b hb => by
    have e : b = it := by simpa using hb
    subst e
    exact ⟨_, st, fun v z => by
      have z' : Data.fields _ = Data.cell v := z
      cases z'⟩
  keep := fun i h h' st k => k it (by simp) _ st
  item := by
    intro X hP hw hK hc i pins s σ H E I hf st hg
    subst hP hw hK
    obtain ⟨f0, f1, f2, f3, f4, f5⟩ := hf it (by simp)
    have W := Walks.range (prog := X.prog) (w := X.w) (I.ok.hd hc) it lo 1 n
    refine W.item i s _ _ hg st fun v h' tk hv st' kk => ?_
    obtain ⟨t, rfl⟩ := hv
    have I1 : Inv X pins σ H { s with heap := h', toks := tk } := I.turned (fun b o hb e => kk b o (by simpa using hb) e) f0 f1 f3 f4 f5
    refine ⟨_, rfl, go_of (s := { s with heap := h', toks := tk }) (n := "range_iterator") st' rfl rfl (by decide) ⟨.int (lo + i), H, I1, ⟨t, ?_⟩, ⟨rfl, rfl⟩, st', fun b hb => (hf b hb).1⟩⟩
    rw [Int.mul_one]
  done := by
    intro X hP hw hK hc i pins s σ H E I hf st hg
    subst hP hw hK
    obtain ⟨f0, f1, f2, f3, f4, f5⟩ := hf it (by simp)
    exact wpAny_pyNext_range_end (I.ok.hd hc) st (by have : n ≤ i := hg; omega) fun h' eb => ⟨rfl, I.turned (t' := s.toks) (fun b o hb e => eb b o hb e) f0 f1 f3 f4 f5⟩
  self := fun _ _ _ _ _ st h => wpAny_pyIter_rangeiter st h
end L2
namespace L2
open PySem PySem.Spec PyProof.Rows
section
variable {X : Cx} {tg : Expr}
noncomputable def iList (K : PySem.W.Frag) (tl : TE) : TI := fun σ H R => tl σ H fun x H1 => ∃ a, x = .ref a ∧ (∃ xs, SqL K H1 a xs) ∧ R (Itl K a) H1
theorem pi_list {l : Expr} {tl : TE} (hl : PE X l tl) : PI X tg l (iList X.K tl) := by
  intro pins s σ H R I h
  refine thn (hl pins s σ H _ I h) fun v s1 ⟨x, H1, I1, r1, q1⟩ => ?_
  obtain ⟨a, e, ⟨xs, hq⟩, q⟩ := q1
  subst e
  cases r1
  obtain ⟨its, rv, p, hz⟩ := I1.list hq
  refine wpAny_pyIter_list p.isList ?_
  refine ⟨s1.heap.objs.size, [s1.heap.objs.size], _, _, H1, rfl, I1.kept (t' := s1.toks) fun b o e => Heap.get?_push_of_some _ e, turn_list a _, ⟨_, Heap.get?_push_size _ rfl, rfl, rfl⟩, fun b hb => ?_, q⟩
  have e : b = s1.heap.objs.size := by simpa using hb
  subst e
  exact I1.fpOk (Nat.le_refl _) (I1.hok.fresh (Nat.le_refl _))
theorem range_it {pins : List (Addr × Obj)} {σ : St} {H : Hp} {s : Shared} {R : It → Hp → Prop} {E : Value → Shared → Prop} {lo hi : Int} {t u v : Tok} {tk : Nat} (I : Inv X pins σ H s) (h1 : -(2 ^ 62) ≤ lo) (h2 : lo < 2 ^ 62) (h3 : -(2 ^ 62) ≤ hi) (h4 : hi < 2 ^ 62)
    (q : R (Itr lo (hi - lo).toNat) H) : wpAny (model X.prog X.w) X.A (pyIter (.ref s.heap.objs.size)) (PIE X pins σ tg R) E { s with heap := s.heap.push { cls := .type "range", data := .fields #[.int lo t, .int hi u, .int 1 v] }, toks := tk } := by
  refine wpAny_pyIter_range (IsRange.new ..) (small_one h1 h2 h3 h4) ?_
  have I1 : Inv X pins σ H { s with heap := s.heap.push { cls := .type "range", data := .fields #[.int lo t, .int hi u, .int 1 v] }, toks := tk } := I.kept fun b o e => Heap.get?_push_of_some _ e
  refine ⟨(s.heap.push { cls := .type "range", data := .fields #[.int lo t, .int hi u, .int 1 v] }).objs.size, [(s.heap.push { cls := .type "range", data := .fields #[.int lo t, .int hi u, .int 1 v] }).objs.size], _, _, H, rfl,
    I1.kept (t' := tk) fun b o e => Heap.get?_push_of_some _ e, turn_range _ lo (hi - lo).toNat, ?_, fun b hb => ?_, q⟩
  · have e1 : lo + ((0 : Nat) : Int) * 1 = lo := by simp
    have e2 : (((hi - lo).toNat : Nat) : Int) - ((0 : Nat) : Int) = Builtin.Range.rangeSize lo hi 1 := by rw [rangeSize_one]; split <;> omega
    show IsRangeIter _ _ (lo + ((0 : Nat) : Int) * 1) ((((hi - lo).toNat : Nat) : Int) - ((0 : Nat) : Int)) 1
    rw [e1, e2]
    exact Heap.get?_push_size _ rfl
  · have e : b = (s.heap.push { cls := .type "range", data := .fields #[.int lo t, .int hi u, .int 1 v] }).objs.size := by simpa using hb
    subst e
    exact I1.fpOk (Nat.le_refl _) (I1.hok.fresh (Nat.le_refl _))
noncomputable def iRng1 (ta : TA) : TI := fun σ H R => ta σ H fun vs H1 => ∃ j : Int, vs = [.int j] ∧ -(2 ^ 62) ≤ j ∧ j < 2 ^ 62 ∧ R (Itr 0 j.toNat) H1
theorem pi_range1 {a : Expr} {ta : TA} {p pos : Pos} (hg : Gl X "range") (hm : X.mg "range" = none) (ha : PA X [a] ta) (hs : starEach [a] X.env = [(false, eval a X.env)] := by rfl) : PI X tg (.Call (.Name "range" p) [a] [] pos) (iRng1 ta) := by
  intro pins s σ H R I h
  refine Call_ (ld_blt I hg hm boot_range (PyProof.Rows.callWith_type1 (thn (ha pos pins s σ H _ I h) fun us s1 ⟨vs, H1, I1, r1, q1⟩ => ?_) hs rfl))
  obtain ⟨j, e, q1, q2, q⟩ := q1
  subst e
  cases r1 with
  | cons r rr =>
    cases rr
    obtain ⟨t, rfl⟩ := r
    exact call_range_1 (range_it I1 (by omega) (by omega) q1 q2 (by simpa using q))
noncomputable def tFor (wi : TI) (g : TG) (tb : TS) : TS := fun D σ H => wi σ H fun J H1 => ∃ W : Nat → Nat → St → Hp → Prop, (∃ m, W 0 m σ H1) ∧ ∀ i m σ H, W i m σ H →
  (J.stop i H ∧ D.nx σ H) ∨ (J.go i H ∧ ∃ N : St → Hp → Prop, (∀ σ' H', N σ' H' → ∃ m', m' < m ∧ W (i + 1) m' σ' H') ∧ ∀ x H', J.yld i H x H' → g x σ H' fun σ2 H2 => tb { D with nx := N, ct := N, bk := D.nx } σ2 H2)
noncomputable def pinsAt (fp : List Addr) (h : Heap) : List (Addr × Obj) := fp.filterMap fun b => (h.get? b).map fun o => (b, o)
theorem mem_pinsAt {fp : List Addr} {h : Heap} {b : Addr} {o : Obj} (hb : b ∈ fp) (e : h.get? b = some o) : (b, o) ∈ pinsAt fp h := List.mem_filterMap.mpr ⟨b, hb, by rw [e]; rfl⟩
theorem of_pinsAt {fp : List Addr} {h : Heap} {p : Addr × Obj} (hp : p ∈ pinsAt fp h) : p.1 ∈ fp ∧ h.get? p.1 = some p.2 := by
  obtain ⟨b, hb, e⟩ := List.mem_filterMap.mp hp
  cases q : h.get? b with
  | none => rw [q] at e; cases e
  | some o =>
    rw [q] at e
    have e' : (b, o) = p := Option.some.inj e
    subst e'
    exact ⟨hb, q⟩
theorem Inv.pinned {pins : List (Addr × Obj)} {σ : St} {H : Hp} {s : Shared} {fp : List Addr} (I : Inv X pins σ H s) (hf : ∀ b ∈ fp, FpOk X pins H b) (ho : ∀ b ∈ fp, ∃ o, s.heap.get? b = some o ∧ ∀ v, o.data ≠ .cell v) : Inv X (pins ++ pinsAt fp s.heap) σ H s :=
  I.pins_of fun p hp => (List.mem_append.mp hp).elim (fun z => I.pin p (List.mem_append_right _ z)) fun z => by
    obtain ⟨hb, e⟩ := of_pinsAt z
    obtain ⟨f0, f1, f2, _⟩ := hf p.1 hb
    obtain ⟨o, e', d⟩ := ho p.1 hb
    rw [e] at e'; cases e'
    exact ⟨e, f0, f1, f2, d⟩
theorem Inv.unpinned {pins pl : List (Addr × Obj)} {σ : St} {H : Hp} {s : Shared} (I : Inv X (pins ++ pl) σ H s) : Inv X pins σ H s := I.pins_of fun p hp => I.pin p (List.mem_append_right _ (List.mem_append_left _ hp))
theorem ps_for {iter : Expr} {body : List Stmt} {wi : TI} {g : TG} {tb : TS} {pos : Pos} (hp : PassesOwn (model X.prog X.w) X.A X.env X.xe) (hc : X.calm = true) (hi : PI X tg iter wi) (hg : PG X tg g) (hb : PSs X body tb)
    (hs : ∀ x, foldedSetIterable iter X.env x = pure x := by intro _; rfl) : PS X (.For tg iter body [] pos) (tFor wi g tb) := by
  intro pins s σ H D I h
  refine wpAny_For (thn (hi pins s σ H _ I h) fun v s1 h1 => thn h1 fun itv s2 h2 => ?_) hs
  obtain ⟨it, fp, tn, J, H2, e, I2, T, st2, f2, W, ⟨m0, w0⟩, turn⟩ := h2
  subst e
  -- what stays true of the iterator's objects through the loop
  have stat : ∀ {H' : Hp}, (∀ b ∈ fp, H' b = none) → ∀ b ∈ fp, FpOk X pins H' b := fun hn b hb => ⟨hn b hb, (f2 b hb).2⟩
  refine codeAny_forLoop_any (fun n s' => ∃ i σ' H', Inv X pins σ' H' s' ∧ tn i s'.heap ∧ (∀ b ∈ fp, H' b = none) ∧ W i n σ' H') ?_ m0 ⟨0, σ, H2, I2, st2, fun b hb => (f2 b hb).1, w0⟩
  rintro n s3 ⟨i, σ3, H3, I3, st3, fr3, w3⟩
  rcases turn i n σ3 H3 w3 with ⟨stop, qn⟩ | ⟨go, N, hN, step⟩
  · refine wpAny_passesOwn hp (thn (T.done X rfl rfl rfl hc i pins s3 σ3 H3 X.xe I3 (stat fr3) st3 stop) fun r s4 ⟨hr, I4⟩ => ?_)
    subst hr
    exact wpAny_execs_nil ⟨σ3, H3, I4, qn⟩
  · refine wpAny_passesOwn hp (thn (T.item X rfl rfl rfl hc i pins s3 σ3 H3 X.xe I3 (stat fr3) st3 go) fun r s4 ⟨u, hr, h4⟩ => ?_)
    subst hr
    refine wpAny_passesOwn hp (thn h4 fun _ s5 ⟨x, H5, I5, r5, y5, st5, fr5⟩ => ?_)
    have I5' := I5.pinned (stat fr5) (T.obj _ _ st5)
    refine wpAny_passesOwn hp (thn (hg _ s5 σ3 H5 x u _ I5' r5 (step x H5 y5)) fun _ s6 ⟨σ6, H6, I6, q6⟩ => ?_)
    refine wpAny_passesOwn hp (thn (hb _ s6 σ6 H6 _ I6 q6) fun f s7 q7 => ?_)
    have again : ∀ {σ7 : St} {H7 : Hp}, Inv X (pins ++ pinsAt fp s5.heap) σ7 H7 s7 → N σ7 H7 → ∃ m, m < n ∧ ∃ i σ' H', Inv X pins σ' H' s7 ∧ tn i s7.heap ∧ (∀ b ∈ fp, H' b = none) ∧ W i m σ' H' := fun {σ7 H7} I7 n7 => by
      obtain ⟨m', hm, w7⟩ := hN σ7 H7 n7
      refine ⟨m', hm, i + 1, σ7, H7, I7.unpinned, T.keep _ _ _ st5 fun b hb o e => (I7.pin (b, o) (List.mem_append_right _ (List.mem_append_right _ (mem_pinsAt hb e)))).1, fun b hb => ?_, w7⟩
      obtain ⟨o, e, d⟩ := T.obj _ _ st5 b hb
      exact (I7.pin (b, o) (List.mem_append_right _ (List.mem_append_right _ (mem_pinsAt hb e)))).2.1
    cases f with
    | next => obtain ⟨σ7, H7, I7, n7⟩ := q7; exact again I7 n7
    | cont => obtain ⟨σ7, H7, I7, n7⟩ := q7; exact again I7 n7
    | brk => obtain ⟨σ7, H7, I7, q7⟩ := q7; exact ⟨σ7, H7, I7.unpinned, q7⟩
    | ret v => obtain ⟨x7, σ7, H7, I7, r7, q7⟩ := q7; exact ⟨x7, σ7, H7, I7.unpinned, r7, q7⟩
end
end L2
namespace L2
open PySem PySem.Spec PyProof.Rows
noncomputable abbrev R2 := V → V → Hp → VK → Prop
noncomputable def OpR (X : Cx) (f : Value → Value → Sem Value) (r : R2) : Prop :=
  ∀ (pins : List (Addr × Obj)) (s : Shared) (σ : St) (H : Hp) (x y : V) (v u : Value) (Q : VK), Inv X pins σ H s → RelV x v → RelV y u → r x y H Q →
    wpAny (model X.prog X.w) X.A (f v u) (EP X pins σ Q) X.xe s
noncomputable def UnR (X : Cx) (f : Value → Sem Value) (r : V → Hp → VK → Prop) : Prop :=
  ∀ (pins : List (Addr × Obj)) (s : Shared) (σ : St) (H : Hp) (x : V) (v : Value) (Q : VK), Inv X pins σ H s → RelV x v → r x H Q →
    wpAny (model X.prog X.w) X.A (f v) (EP X pins σ Q) X.xe s
noncomputable def CallR (X : Cx) (f : Value) (r : List V → Hp → VK → Prop) : Prop :=
  ∀ (pins : List (Addr × Obj)) (s : Shared) (σ : St) (H : Hp) (xs : List V) (us : List Value) (Q : VK), Inv X pins σ H s → Vals xs us → r xs H Q →
    wpAny (model X.prog X.w) X.A (call f us) (EP X pins σ Q) X.xe s
noncomputable def tOp (r : R2) (ta tb : TE) : TE := fun σ H Q => ta σ H fun x H1 => tb σ H1 fun y H2 => r x y H2 Q
noncomputable def tUn (r : V → Hp → VK → Prop) (ta : TE) : TE := fun σ H Q => ta σ H fun x H1 => r x H1 Q
noncomputable def rI (C : Int → Int → Prop) (g : Int → Int → V) : R2 := fun x y H Q => ∃ i j, x = .int i ∧ y = .int j ∧ C i j ∧ Q (g i j) H
noncomputable def rI0 (g : Int → Int → V) : R2 := fun x y H Q => ∃ i j, x = .int i ∧ y = .int j ∧ Q (g i j) H
noncomputable def rU (g : Int → V) : V → Hp → VK → Prop := fun x H Q => ∃ i, x = .int i ∧ Q (g i) H

section
variable {X : Cx} {a b c : Expr} {ta tb tc : TE} {pos : Pos}
theorem binT (ha : PE X a ta) (hb : PE X b tb) {pins : List (Addr × Obj)} {s : Shared} {σ : St} {H : Hp} {R : V → V → Hp → Prop} (I : Inv X pins σ H s)
    (h : ta σ H fun x H1 => tb σ H1 fun y H2 => R x y H2) {Q : Value → Shared → Prop} {f : Value → Value → Sem Value}
    (hf : ∀ v u s2 x y H2, Inv X pins σ H2 s2 → RelV x v → RelV y u → R x y H2 → wpAny (model X.prog X.w) X.A (f v u) Q X.xe s2) :
    wpAny (model X.prog X.w) X.A (eval a X.env) (fun v s₁ => wpAny (model X.prog X.w) X.A (eval b X.env) (fun u s₂ => wpAny (model X.prog X.w) X.A (f v u) Q X.xe s₂) X.xe s₁) X.xe s := by
  refine thn (ha pins s σ H _ I h) fun v s1 ⟨x, H1, I1, r1, q1⟩ => ?_
  refine thn (hb pins s1 σ H1 _ I1 q1) fun u s2 ⟨y, H2, I2, r2, q2⟩ => ?_
  exact hf v u s2 x y H2 I2 r1 r2 q2

theorem pe_op {op : Operator} {r : R2} (ho : OpR X (binaryOp op) r) (ha : PE X a ta) (hb : PE X b tb) : PE X (.BinOp a op b pos) (tOp r ta tb) := by
  intro pins s σ H Q I h
  exact wpAny_BinOp (binT ha hb I h fun v u s2 x y H2 I2 rx ry q => ho pins s2 σ H2 x y v u Q I2 rx ry q)
theorem pe_un {op : UnaryOp} {r : V → Hp → VK → Prop} (ho : UnR X (unaryOp op) r) (ha : PE X a ta) : PE X (.UnaryOp op a pos) (tUn r ta) := by
  intro pins s σ H Q I h
  exact UnaryOp_ (thn (ha pins s σ H _ I h) fun v s1 ⟨x, H1, I1, r1, q1⟩ => ho pins s1 σ H1 x v Q I1 r1 q1)
theorem opI {f : Value → Value → Sem Value} {C : Int → Int → Prop} {g : Int → Int → Int}
    (rule : ∀ (i j : Int) (t u : Tok) (s : Shared) (Q : Value → Shared → Prop) (E : Value → Shared → Prop), C i j → Q (.int (g i j) s.toks) { s with toks := s.toks + 1 } → wpAny (model X.prog X.w) X.A (f (.int i t) (.int j u)) Q E s) :
    OpR X f (rI C fun i j => .int (g i j)) := by
  intro pins s σ H x y v u Q I rx ry h
  obtain ⟨i, j, rfl, rfl, hc, q⟩ := h
  obtain ⟨t, rfl⟩ := rx
  obtain ⟨t', rfl⟩ := ry
  exact rule i j t t' s _ _ hc ⟨.int (g i j), H, I.tok _, ⟨_, rfl⟩, q⟩
theorem opI0 {f : Value → Value → Sem Value} {g : Int → Int → Int}
    (rule : ∀ (i j : Int) (t u : Tok) (s : Shared) (Q : Value → Shared → Prop) (E : Value → Shared → Prop), Q (.int (g i j) s.toks) { s with toks := s.toks + 1 } → wpAny (model X.prog X.w) X.A (f (.int i t) (.int j u)) Q E s) :
    OpR X f (rI0 fun i j => .int (g i j)) := by
  intro pins s σ H x y v u Q I rx ry h
  obtain ⟨i, j, rfl, rfl, q⟩ := h
  obtain ⟨t, rfl⟩ := rx
  obtain ⟨t', rfl⟩ := ry
  exact rule i j t t' s _ _ ⟨.int (g i j), H, I.tok _, ⟨_, rfl⟩, q⟩
theorem opB0 {f : Value → Value → Sem Value} {g : Int → Int → Bool}
    (rule : ∀ (i j : Int) (t u : Tok) (s : Shared) (Q : Value → Shared → Prop) (E : Value → Shared → Prop), Q (.bool (g i j)) s → wpAny (model X.prog X.w) X.A (f (.int i t) (.int j u)) Q E s) :
    OpR X f (rI0 fun i j => .bl (g i j)) := by
  intro pins s σ H x y v u Q I rx ry h
  obtain ⟨i, j, rfl, rfl, q⟩ := h
  obtain ⟨t, rfl⟩ := rx
  obtain ⟨t', rfl⟩ := ry
  exact rule i j t t' s _ _ ⟨.bl (g i j), H, I, rfl, q⟩

noncomputable def CPow (i j : Int) : Prop := 0 ≤ j ∧ j ≤ 1000000 ∧ i.natAbs < 2 ^ 64
noncomputable def CMul (i j : Int) : Prop := (-(2 ^ 64) < i ∧ i < 2 ^ 64) ∨ (-(2 ^ 64) < j ∧ j < 2 ^ 64)
theorem CMul.ok {i j : Int} (h : CMul i j) : IntMulOk i j := by
  rcases h with ⟨h1, h2⟩ | ⟨h1, h2⟩
  · exact .of_left (intBits_le_64 h1 h2)
  · exact .of_right (intBits_le_64 h1 h2)
theorem op_add : OpR X (binaryOp .Add) (rI0 fun i j => .int (i + j)) := opI0 fun _ _ _ _ _ _ _ q => add_int q
theorem op_sub : OpR X (binaryOp .Sub) (rI0 fun i j => .int (i - j)) := opI0 fun _ _ _ _ _ _ _ q => sub_int q
theorem op_mul : OpR X (binaryOp .Mult) (rI CMul fun i j => .int (i * j)) := opI fun _ _ _ _ _ _ _ hc q => mul_int q hc.ok
theorem op_mod : OpR X (binaryOp .Mod) (rI (fun _ j => 0 < j) fun i j => .int (i % j)) := opI fun i j _ _ _ _ _ hc q => by
  have h1 : (0 : Int) < j := hc
  exact mod_int' (by omega) (by rw [Int.fmod_eq_emod_of_nonneg i (by omega)]; exact q)
theorem op_pow : OpR X (binaryOp .Pow) (rI CPow fun i j => .int (i ^ j.toNat)) := opI fun _ _ _ _ _ _ _ hc q => pow_int_small hc.1 hc.2.1 hc.2.2 q
theorem unI {f : Value → Sem Value} {g : Int → Int}
    (rule : ∀ (i : Int) (t : Tok) (s : Shared) (Q : Value → Shared → Prop) (E : Value → Shared → Prop), Q (.int (g i) s.toks) { s with toks := s.toks + 1 } → wpAny (model X.prog X.w) X.A (f (.int i t)) Q E s) :
    UnR X f (rU fun i => .int (g i)) := by
  intro pins s σ H x v Q I rx h
  obtain ⟨i, rfl, q⟩ := h
  obtain ⟨t, rfl⟩ := rx
  exact rule i t s _ _ ⟨.int (g i), H, I.tok _, ⟨_, rfl⟩, q⟩
theorem un_neg : UnR X (unaryOp .USub) (rU fun i => .int (-i)) := unI fun _ _ _ _ _ q => neg_int q
end
section
variable {X : Cx} {a b c : Expr} {ta tb tc : TE} {pos : Pos}
theorem fin_bl {pins : List (Addr × Obj)} {σ : St} {H : Hp} {s : Shared} {Q : VK} {k k' : Bool} (I : Inv X pins σ H s) (q : Q (.bl k) H) (e : k = k') : EP X pins σ Q (.bool k') s := by
  subst e
  exact ⟨.bl k, H, I, rfl, q⟩
theorem op_lt : OpR X (compareOp .Lt) (rI0 fun i j => .bl (decide (i < j))) := opB0 fun _ _ _ _ _ _ _ q => lt_int q
theorem op_le : OpR X (compareOp .LtE) (rI0 fun i j => .bl (decide (i ≤ j))) := opB0 fun _ _ _ _ _ _ _ q => le_int q
theorem op_gt : OpR X (compareOp .Gt) (rI0 fun i j => .bl (decide (j < i))) := opB0 fun _ _ _ _ _ _ _ q => gt_int q
theorem op_ge : OpR X (compareOp .GtE) (rI0 fun i j => .bl (decide (j ≤ i))) := opB0 fun _ _ _ _ _ _ _ q => ge_int q
theorem op_isN : OpR X (compareOp .Is) (fun x y H Q => y = .non ∧ Q (.bl (decide (x = .non))) H) := by
  intro pins s σ H x y v u Q I rx ry h
  obtain ⟨rfl, q⟩ := h
  cases ry
  refine is_none_gen (fin_bl I q ?_)
  cases x <;> first
    | (cases rx; rfl)
    | (obtain ⟨t, rfl⟩ := rx; rfl)
theorem op_notN : OpR X (compareOp .IsNot) (fun x y H Q => y = .non ∧ Q (.bl (!decide (x = .non))) H) := by
  intro pins s σ H x y v u Q I rx ry h
  obtain ⟨rfl, q⟩ := h
  cases ry
  refine isnot_none_gen (fin_bl I q ?_)
  cases x <;> first
    | (cases rx; rfl)
    | (obtain ⟨t, rfl⟩ := rx; rfl)

theorem OpR.or {f : Value → Value → Sem Value} {r r' : R2} (h : OpR X f r) (h' : OpR X f r') : OpR X f (fun x y H Q => r x y H Q ∨ r' x y H Q) := by
  intro pins s σ H x y v u Q I rx ry q
  rcases q with q | q
  · exact h pins s σ H x y v u Q I rx ry q
  · exact h' pins s σ H x y v u Q I rx ry q

theorem nomark (b : Expr) {op : CmpOp} (h : op ≠ .In := by decide) (h2 : op ≠ .NotIn := by decide) : behindInMarks op b = false := by
  have e1 : (op == CmpOp.In) = false := by cases op <;> first | rfl | exact absurd rfl h
  have e2 : (op == CmpOp.NotIn) = false := by cases op <;> first | rfl | exact absurd rfl h2
  cases b <;> simp [behindInMarks, e1, e2]
theorem pe_cmpR {op : CmpOp} {r : R2} (ho : OpR X (compareOp op) r) (ha : PE X a ta) (hb : PE X b tb) (hm : behindInMarks op b = false) : PE X (.Compare a [op] [b] pos) (tOp r ta tb) := by
  intro pins s σ H Q I h
  exact wpAny_Compare1 (binT ha hb I h fun v u s2 x y H2 I2 rx ry q => ho pins s2 σ H2 x y v u Q I2 rx ry q) hm
noncomputable def tTest (t : TE) : TT := fun σ H Q => t σ H fun x H' => ∃ k, x = .bl k ∧ Q k H'
theorem pt_cmpR {op : CmpOp} {r : R2} (ho : OpR X (compareOp op) r) (ha : PE X a ta) (hb : PE X b tb) (hm : behindInMarks op b = false) : PT X (.Compare a [op] [b] pos) (tTest (tOp r ta tb)) := by
  intro pins s σ H Q I h
  refine wpAny_isTrue_Compare1 (thn (ha pins s σ H _ I h) fun v s1 ⟨x, H1, I1, r1, q1⟩ => thn (hb pins s1 σ H1 _ I1 q1) fun u s2 ⟨y, H2, I2, r2, q2⟩ =>
    thn (ho pins s2 σ H2 x y v u _ I2 r1 r2 q2) fun c s3 ⟨z, H3, I3, r3, k, e, q3⟩ => ?_) hm
  subst e
  cases r3
  exact wpAny_truthy_bool ⟨H3, I3, q3⟩
noncomputable def tChain (r r' : R2) (ta tb tc : TE) : TE := fun σ H Q => ta σ H fun x H1 => tb σ H1 fun y H2 => r x y H2 fun z H3 => ∃ k, z = .bl k ∧
  (if k = true then tc σ H3 fun w' H4 => r' y w' H4 Q else Q (.bl false) H3)
theorem pt_chain {op op' : CmpOp} {r r' : R2} (ho : OpR X (compareOp op) r) (ho' : OpR X (compareOp op') r') (ha : PE X a ta) (hb : PE X b tb) (hc : PE X c tc)
    (hm : lastMarks [op, op'] [b, c] = false := by with_unfolding_all rfl) : PT X (.Compare a [op, op'] [b, c] pos) (tTest (tChain r r' ta tb tc)) := by
  intro pins s σ H Q I h
  refine isTrue_chain (thn (ha pins s σ H _ I h) fun v s1 ⟨x, H1, I1, r1, q1⟩ => test_link (thn (hb pins s1 σ H1 _ I1 q1) fun u s2 ⟨y, H2, I2, r2, q2⟩ =>
    thn (ho pins s2 σ H2 x y v u _ I2 r1 r2 q2) fun d s3 ⟨z, H3, I3, r3, k, e, q3⟩ => ?_)) hm
  subst e
  cases r3
  refine wpAny_truthy_bool ?_
  cases k with
  | false =>
    obtain ⟨k', e', q'⟩ := q3
    cases e'
    exact ite_ff ⟨H3, I3, q'⟩
  | true =>
    refine ite_tt (test_last (thn (hc pins s3 σ H3 _ I3 q3) fun w' s4 ⟨z', H4, I4, r4, q4⟩ => thn (ho' pins s4 σ H4 y z' u w' _ I4 r2 r4 q4) fun d' s5 ⟨z2, H5, I5, r5, k2, e2, q5⟩ => ?_))
    subst e2
    cases r5
    exact wpAny_truthy_bool ⟨H5, I5, q5⟩

theorem line63 : (sizeLine : Nat) < 2 ^ 63 := by rw [sizeLine_eq]; decide
theorem op_add_str : OpR X (binaryOp .Add) (fun x y H Q => ∃ i j, x = .str i ∧ y = .str j ∧ i.length + j.length ≤ sizeLine ∧ Q (.str (i ++ j)) H) := by
  intro pins s σ H x y v u Q I rx ry h
  obtain ⟨i, j, rfl, rfl, hz, q⟩ := h
  obtain ⟨t, rfl⟩ := rx
  obtain ⟨t', rfl⟩ := ry
  exact add_str (fun t' tk => ⟨.str (i ++ j), H, I.tok _, ⟨_, rfl⟩, q⟩) hz
theorem vals1 {x : V} {us : List Value} (r : Vals [x] us) : ∃ u, us = [u] ∧ RelV x u := by
  cases r with
  | cons r1 r2 => cases r2; exact ⟨_, rfl, r1⟩
theorem vals2 {x y : V} {us : List Value} (r : Vals [x, y] us) : ∃ u w', us = [u, w'] ∧ RelV x u ∧ RelV y w' := by
  cases r with
  | cons r1 r2 =>
    cases r2 with
    | cons r3 r4 => cases r4; exact ⟨_, _, rfl, r1, r3⟩
theorem call_abs : CallR X (.builtin "abs") (fun xs H Q => ∃ i, xs = [.int i] ∧ Q (.int (if i < 0 then -i else i)) H) := by
  intro pins s σ H xs us Q I r h
  obtain ⟨i, rfl, q⟩ := h
  obtain ⟨u, rfl, t, rfl⟩ := vals1 r
  exact call_abs_int fun u tk => ⟨.int (if i < 0 then -i else i), H, I.tok _, ⟨_, rfl⟩, q⟩
theorem call_max2 (hc : X.calm = true) : CallR X (.builtin "max") (fun xs H Q => ∃ i j, xs = [.int i, .int j] ∧ Q (.int (if j > i then j else i)) H) := by
  intro pins s σ H xs us Q I r h
  obtain ⟨i, j, rfl, q⟩ := h
  obtain ⟨u, w', rfl, ⟨t, rfl⟩, ⟨t', rfl⟩⟩ := vals2 r
  refine max_two_ints (I.ok.hd hc) fun h' tk k => ⟨_, H, I.kept k, ?_, q⟩
  by_cases hj : j > i
  · rw [if_pos hj, if_pos hj]; exact ⟨_, rfl⟩
  · rw [if_neg hj, if_neg hj]; exact ⟨_, rfl⟩
theorem call_min2 (hc : X.calm = true) : CallR X (.builtin "min") (fun xs H Q => ∃ i j, xs = [.int i, .int j] ∧ Q (.int (if j < i then j else i)) H) := by
  intro pins s σ H xs us Q I r h
  obtain ⟨i, j, rfl, q⟩ := h
  obtain ⟨u, w', rfl, ⟨t, rfl⟩, ⟨t', rfl⟩⟩ := vals2 r
  refine min_two_ints (I.ok.hd hc) fun h' tk k => ⟨_, H, I.kept k, ?_, q⟩
  by_cases hj : j < i
  · rw [if_pos hj, if_pos hj]; exact ⟨_, rfl⟩
  · rw [if_neg hj, if_neg hj]; exact ⟨_, rfl⟩
end
end L2
namespace L2
open PySem PySem.Spec PyProof.Rows
structure ObjM (h : Heap) (x dx C : Addr) (mA : Str → Option Value) : Prop where
  obj : h.get? x = some (PySem.W.instObj C dx)
  ns : h.Ns1 dx mA
  ne : dx ≠ x

theorem lookIn_ns {h : Heap} {dx : Addr} {mA : Str → Option Value} (n : h.Ns1 dx mA) : ∃ od, h.get? dx = some od ∧ ∀ name, PySem.W.lookIn name od = some (mA name) := by
  obtain ⟨o, es, ep, ho, hd, hk, _, hm⟩ := n
  refine ⟨o, ho, fun name => ?_⟩
  have e := hm name
  unfold nsFind findBy at e
  rw [← Array.find?_toList] at e
  unfold PySem.W.lookIn
  rw [hd]
  dsimp only
  split
  · rename_i y q
    rw [q] at e
    exact congrArg some e
  · rename_i q
    rw [q] at e
    have a : es.toList.any (·.refKey) = false := by
      rw [List.any_eq_false]
      intro y hy
      obtain ⟨z, t, hkey⟩ := hk y (Array.mem_toList_iff.mp hy)
      simp [DictEntry.refKey, hkey]
    have a' : ¬ es.toList.any (·.refKey) = true := by rw [a]; exact Bool.false_ne_true
    rw [if_neg a']
    exact congrArg some e

theorem ObjM.look {h : Heap} {x dx C : Addr} {mA : Str → Option Value} (I : ObjM h x dx C mA) : ∃ od, PySem.W.InstAt h x (PySem.W.instObj C dx) C (some od) ∧ ∀ name, PySem.W.lookIn name od = some (mA name) :=
  let ⟨od, ho, hl⟩ := lookIn_ns I.ns
  ⟨od, ⟨I.obj, rfl, rfl, ho⟩, hl⟩

section
variable {prog : Program} {w : World} {A : Around} {E : Value → Shared → Prop} {s : Shared} {K : PySem.W.Frag} {x dx C f : Addr} {mA : Str → Option Value} {name : Str} {v : Value}
end
theorem RelO.some_of {v : V} {o : Option Value} (r : RelO (some v) o) : ∃ u, o = some u ∧ RelV v u := by
  cases o with
  | none => exact (show False from r).elim
  | some u => exact ⟨u, rfl, r⟩
section
variable {P : Program} {w : World} {H H' : Hp} {h h' : Heap} {a C dx : Addr} {fs fs' : List (Str × V)}
theorem ins_get (hok : HOk P w H h) (e : H a = some (.ins C dx fs)) : ∃ mA, ObjM h a dx C mA ∧ (∀ f, RelO (fs.lookup f) (mA f)) ∧ PySem.Within mA (fs.map (·.1)) ∧ fs.length ≤ 1000 ∧ H dx = some (.own a) := by
  obtain ⟨d, z, ne, ob, mA, n, r, q⟩ := (show ObjOk P w H h a (.ins C dx fs) from hok a _ e)
  exact ⟨mA, ⟨ob, n, ne⟩, r, q, z, d⟩
end
structure Cls (K : PySem.W.Frag) (C : Addr) : Prop where
  pg : PySem.W.plainGet K C Str.empty = true
  hd : PySem.W.hasDictIn K C = true
  po : PySem.W.plainOver K C = true
  sa : PySem.W.findIn K (.ref C) "__setattr__" = some (some (.builtin "object.__setattr__"))
theorem Cls.get {K : PySem.W.Frag} {C : Addr} (c : Cls K C) (f : Str) : PySem.W.plainGet K C f = true := c.pg
section
variable {X : Cx} {pins : List (Addr × Obj)} {σ : St} {H : Hp} {s : Shared} {a C dx : Addr} {fs : List (Str × V)} {f : Str} {v : V} {A : Around} {E : Value → Shared → Prop}
end
section
variable {X : Cx} {o e value : Expr} {f : Str} {pos pos' tpos : Pos} {ta tv : TE}
end
section
variable {X : Cx} {pins : List (Addr × Obj)} {σ : St} {H : Hp} {s : Shared} {A : Around} {E : Value → Shared → Prop} {Q : Value → Shared → Prop} {c : Value} {b : Bool}
inductive TyOf (K : PySem.W.Frag) (H : Hp) : V → Value → Prop where
  | non : TyOf K H .non (.type "NoneType")
  | bl (x : Bool) : TyOf K H (.bl x) (.type "bool")
  | int (i : Int) : TyOf K H (.int i) (.type "int")
  | str (x : Str) : TyOf K H (.str x) (.type "str")
  | flt (x : UInt64) : TyOf K H (.flt x) (.type "float")
  | lst {a : Addr} {xs : List V} (e : H a = some (.lst xs)) : TyOf K H (.ref a) (.type "list")
  | frz {a : Addr} {o : Obj} {xs : List V} (e : H a = some (.frz o (.lst xs))) : TyOf K H (.ref a) (.type "list")
  | tup {a : Addr} {xs : List V} (e : H a = some (.tup xs)) : TyOf K H (.ref a) (.type "tuple")
  | dK {a : Addr} {kvs : List (Key × V)} (e : H a = some (.dK kvs)) : TyOf K H (.ref a) (.type "dict")
  | dT {a : Addr} {kvs : List (List Key × V)} (e : H a = some (.dT kvs)) : TyOf K H (.ref a) (.type "dict")
  | ins {a C dx : Addr} {fs : List (Str × V)} (e : H a = some (.ins C dx fs)) (cl : Cls K C) (ha : PySem.W.findIn K (.ref C) "__class__" = some (some (.builtin "object.__class__")))
      (hn : PySem.W.specialIn K (.builtin "object.__class__") "__get__" = some (some (.builtin "getset_descriptor.__get__"))) (htk : PySem.W.takesIn K (.builtin "object.__class__") = some true)
      (hm : PySem.W.mroIn K C (.type "object") = some true) : TyOf K H (.ref a) (.ref C)
theorem isinst_ok {x : V} {u t : Value} (I : Inv X pins σ H s) (rx : RelV x u) (ty : TyOf X.K H x t) (e : PySem.W.kitOne X.K t c = some b) (h : ∀ tk, Q (.bool b) { s with toks := tk }) :
    wpAny (model X.prog X.w) A (call (.builtin "isinstance") [u, c]) Q E s := by
  cases ty with
  | non => cases (show u = Value.none from rx); exact PySem.W.kia_one PySem.W.kitx_none I.kIn True.intro e (fun z => nomatch z) h
  | bl y => cases (show u = Value.bool y from rx); exact PySem.W.kia_one PySem.W.kitx_bool I.kIn True.intro e (fun z => nomatch z) h
  | int i => obtain ⟨t, q⟩ := (show ∃ t, u = Value.int i t from rx); cases q; exact PySem.W.kia_one PySem.W.kitx_int I.kIn True.intro e (fun z => nomatch z) h
  | str y => obtain ⟨t, q⟩ := (show ∃ t, u = Value.str y t from rx); cases q; exact PySem.W.kia_one PySem.W.kitx_str I.kIn True.intro e (fun z => nomatch z) h
  | flt y => obtain ⟨t, q⟩ := (show ∃ t, u = Value.float y t from rx); cases q; exact PySem.W.kia_one PySem.W.kitx_float I.kIn True.intro e (fun z => nomatch z) h
  | @lst a xs ea =>
    cases (show u = Value.ref a from rx)
    obtain ⟨_, _, n, _, h1⟩ := (show ObjOk X.prog X.w H s.heap a (.lst xs) from I.hok a _ ea)
    exact PySem.W.kia_one PySem.W.kitx_list I.kIn ⟨_, h1, rfl⟩ e (fun z => nomatch z) h
  | @frz a ob xs ea =>
    cases (show u = Value.ref a from rx)
    obtain ⟨_, _, _, n, _, h1⟩ := (show ObjOk X.prog X.w H s.heap a (.frz ob (.lst xs)) from I.hok a _ ea)
    exact PySem.W.kia_one PySem.W.kitx_list I.kIn ⟨_, h1, rfl⟩ e (fun z => nomatch z) h
  | @tup a xs ea =>
    cases (show u = Value.ref a from rx)
    obtain ⟨_, _, _, p⟩ := (show ObjOk X.prog X.w H s.heap a (.tup xs) from I.hok a _ ea)
    obtain ⟨o, h1, h2, _⟩ := p
    exact PySem.W.kia_one PySem.W.kitx_tuple I.kIn ⟨o, h1, h2⟩ e (fun z => nomatch z) h
  | @dK a kvs ea =>
    cases (show u = Value.ref a from rx)
    obtain ⟨_, _, vs, _, p⟩ := (show ObjOk X.prog X.w H s.heap a (.dK kvs) from I.hok a _ ea)
    obtain ⟨o, es, ep, h1, h2, _⟩ := p
    exact PySem.W.kia_one PySem.W.kitx_dict I.kIn ⟨o, h1, h2.1⟩ e (fun z => nomatch z) h
  | @dT a kvs ea =>
    cases (show u = Value.ref a from rx)
    obtain ⟨_, _, xs, _, o, es, ep, h1, h2, _⟩ := (show ObjOk X.prog X.w H s.heap a (.dT kvs) from I.hok a _ ea)
    exact PySem.W.kia_one PySem.W.kitx_dict I.kIn ⟨o, h1, h2.1⟩ e (fun z => nomatch z) h
  | @ins a C dx fs ea cl ha hn htk hm =>
    cases (show u = Value.ref a from rx)
    obtain ⟨mA, O, _⟩ := ins_get I.hok ea
    obtain ⟨od, J, _⟩ := O.look
    exact PySem.W.kia_one (PySem.W.kitx_own (cl.get _) cl.hd ha hn htk hm) I.kIn J e (fun z => nomatch z) h
end
end L2
namespace L2
open PySem PySem.Spec PyProof.Rows
structure Room (k : Nat) (A : Around) : Prop where
  hd : A.handled = none
  dp : A.depth + 3 * k + 5 < recursionLimit
  un : A.units + 16 * k + 200 < cLine
theorem Room.mono {j k : Nat} {A : Around} (r : Room k A) (h : j ≤ k) : Room j A := ⟨r.hd, by have := r.dp; omega, by have := r.un; omega⟩
theorem Room.deeper {k : Nat} {A : Around} (r : Room (k + 1) A) (env : Env) : Room k (A.deeper env) :=
  ⟨r.hd, by have := r.dp; show A.depth + 1 + 3 * k + 5 < _; omega, by have := r.un; show A.units + 3 + 16 * k + 200 < _; omega⟩
theorem Room.depth {k : Nat} {A : Around} (r : Room k A) : A.depth < recursionLimit := by have := r.dp; omega
noncomputable def tNil : TA := fun _ H Q => Q [] H
noncomputable def tCons (ta : TE) (tr : TA) : TA := fun σ H Q => ta σ H fun x H1 => tr σ H1 fun xs H2 => Q (x :: xs) H2
section
variable {X : Cx} {e : Expr} {es : List Expr} {te : TE} {t : TA} {pos : Pos}
theorem pa_nil : PA X [] tNil := fun _ _ _ _ H Q I h => Calls.spliced_nil ⟨[], H, I, .nil, h⟩
theorem pa_cons (ha : PE X e te) (hr : PA X es t) (hs : starEach (e :: es) X.env = (false, eval e X.env) :: starEach es X.env := by rfl) : PA X (e :: es) (tCons te t) := by
  intro pos pins s σ H Q I h
  rw [hs]
  show wpAny _ _ (spliced ((false, eval e X.env) :: backTo pos (starEach es X.env))) _ _ s
  refine Calls.spliced_cons (thn (ha pins s σ H _ I h) fun u s1 ⟨x, H1, I1, r1, q1⟩ => ?_)
  exact thn (hr pos pins s1 σ H1 _ I1 q1) fun us s2 ⟨xs, H2, I2, r2, q2⟩ => ⟨x :: xs, H2, I2, .cons r1 r2, q2⟩

noncomputable def tTup (t : TA) : TE := fun σ H Q => t σ H fun xs H1 => xs.length ≤ sizeLine ∧ ∀ p, H1 p = none → Q (.ref p) (upd H1 p (.tup xs))
noncomputable def tLst (t : TA) : TE := fun σ H Q => t σ H fun xs H1 => xs.length ≤ sizeLine ∧ ∀ p, H1 p = none → Q (.ref p) (upd H1 p (.lst xs))
theorem pe_tup {x1} (h : PA X es t) : PE X (.Tuple es x1 pos) (tTup t) := by
  intro pins s σ H Q I hq
  refine wpAny_Tuple_spliced (thn (h pos pins s σ H _ I hq) fun us s1 ⟨xs, H1, I1, r, z, q⟩ => ⟨by rw [← r.length]; exact z, ?_⟩)
  have hf : H1 s1.heap.objs.size = none := I1.hok.fresh (Nat.le_refl _)
  refine ⟨.ref s1.heap.objs.size, upd H1 s1.heap.objs.size (.tup xs), I1.laid (t' := s1.toks) (fun b u e => Heap.get?_push_of_some _ e) (Nat.le_refl _) ?_, rfl, q _ hf⟩
  exact ⟨z, us, r, ⟨_, Heap.get?_push_size _ rfl, rfl, _, rfl⟩⟩
theorem pe_lst (h : PA X es t) : PE X (.List es pos) (tLst t) := by
  intro pins s σ H Q I hq
  refine wpAny_List_spliced (thn (h pos pins s σ H _ I hq) fun us s1 ⟨xs, H1, I1, r, z, q⟩ => ⟨by rw [← r.length]; exact z, ?_⟩)
  have hf : H1 s1.heap.objs.size = none := I1.hok.fresh (Nat.le_refl _)
  refine ⟨.ref s1.heap.objs.size, upd H1 s1.heap.objs.size (.lst xs), I1.laid (t' := s1.toks) (fun b u e => Heap.get?_push_of_some _ e) (Nat.le_refl _) ?_, rfl, q _ hf⟩
  exact ⟨z, us, 0, r, Heap.get?_push_size _ rfl⟩
end
noncomputable abbrev Sp := List V → Hp → VK → XK → Prop
noncomputable abbrev CXT := List Env → Hp → Shared → XK → Value → Shared → Prop

structure Env0 (P : Program) (w : World) (K : PySem.W.Frag) (mg : Str → Option Value) (base : Heap) (A : Around) (outer : List Env) (s : Shared) (H : Hp) : Prop where
  frames : A.frames = some outer
  mod : Mod K mg base
  bs : ∀ b o, base.get? b = some o → s.heap.get? b = some o ∧ H b = none
  bsz : base.objs.size ≤ s.heap.objs.size
  funs : s.heap.FunFrames base outer
  frf : ∀ b ∈ frs outer, H b = none
  hok : HOk P w H s.heap
  bare : AllBare s.gens
noncomputable def CE (outer : List Env) (P : Program) (w : World) (H : Hp) (s : Shared) (Q : VK) (u : Value) (s' : Shared) : Prop :=
  ∃ v H', s'.os = s.os ∧ AllBare s'.gens ∧ Un (frs outer) [] H H' s.heap s'.heap ∧ HOk P w H' s'.heap ∧ RelV v u ∧ Q v H'
noncomputable def CR (CX : CXT) (outer : List Env) (P : Program) (w : World) (H : Hp) (s : Shared) (Q : VK) (E : XK) (r : Result) (s' : Shared) : Prop :=
  match r with
  | .ok (.ret u) => CE outer P w H s Q u s'
  | .ok _ => False
  | .error e => CX outer H s E e s'
structure FnOk (P : Program) (w : World) (K : PySem.W.Frag) (mg : Str → Option Value) (base : Heap) (CX : CXT) (k : Nat) (f : Addr) (fd : FuncData) (ps : List Str) (sp : Sp) : Prop where
  len : ∀ vs H Q E, sp vs H Q E → vs.length = ps.length
  run : ∀ (A : Around) (outer : List Env) (s : Shared) (H : Hp) (args : Args) (us : List Value) (vs : List V) (Q : VK) (E : XK), Room k A → Env0 P w K mg base A outer s H → BindsTo s fd args (ps.zip us) → Vals vs us → sp vs H Q E →
    codeAny (model P w) A (.call (.ref f) args) (CR CX outer P w H s Q E) s
theorem Env0.in1 {P : Program} {w : World} {K : PySem.W.Frag} {mg : Str → Option Value} {base : Heap} {A : Around} {outer : List Env} {s : Shared} {H : Hp} (e : Env0 P w K mg base A outer s H) :
    Env0 P w K mg base A.in1 outer s H := ⟨e.frames, e.mod, e.bs, e.bsz, e.funs, e.frf, e.hok, e.bare⟩

section
variable {X : Cx} {pins : List (Addr × Obj)} {σ : St} {H : Hp} {s s' : Shared}
theorem Inv.env0 (I : Inv X pins σ H s) : Env0 X.prog X.w X.K X.mg X.base X.A X.stack s H :=
  ⟨I.ok.frames, I.ok.mod, I.bs, Nat.le_trans I.ok.bsz I.sz, I.stack, I.stkFree, I.hok, I.bare⟩
theorem Inv.after {Q : VK} {u : Value} (I : Inv X pins σ H s) (h : CE X.stack X.prog X.w H s Q u s') : EP X pins σ Q u s' := by
  obtain ⟨v, H', os, bare, un, hok, r, q⟩ := h
  obtain ⟨hh, g, d, t, os'⟩ := s'
  obtain rfl : os' = s.os := os
  exact ⟨v, H', I.call (h' := hh) (g' := g) (d' := d) (t' := t) (ch := []) un hok bare (fun b z => absurd z (by simp)), r, q⟩
end
noncomputable def tCall (sp : Sp) (dvs : List V) (E : XK) (t : TA) : TE := fun σ H Q => t σ H fun vs H1 => sp (vs ++ dvs) H1 Q E
noncomputable def Binds (K : PySem.W.Frag) (fd : FuncData) (ps : List Str) (ds : List Value) : Prop :=
  ∀ (s : Shared) (us : List Value), K.In s.heap → (us ++ ds).length = ps.length → BindsTo s fd ⟨us, []⟩ (ps.zip (us ++ ds))
theorem Binds.all {K : PySem.W.Frag} {fd : FuncData} {ps : List Str} (h : ∀ us : List Value, us.length = ps.length → bindArgs fd ⟨us, []⟩ = pure (ps.zip us)) : Binds K fd ps [] := fun s us _ hl => by
  rw [List.append_nil] at hl ⊢
  exact .of_eq (h us hl)

noncomputable def Passes (CX : CXT) (X : Cx) (E : XK) : Prop := ∀ (pins : List (Addr × Obj)) (σ : St) (H : Hp) (s : Shared) (e : Value) (s' : Shared), Inv X pins σ H s → CX X.stack H s E e s' → X.xe e s'

section
variable {X : Cx} {CX : CXT} {k : Nat} {f C : Addr} {fd : FuncData} {ps : List Str} {sp : Sp} {dvs : List V} {ds : List Value} {E : XK} {x m : Str} {p pos apos : Pos} {e o : Expr} {es : List Expr} {ta : TE} {t : TA}
theorem run_fn {pins : List (Addr × Obj)} {σ : St} {H : Hp} {s : Shared} {Q : VK} {us : List Value} {vs : List V} (F : FnOk X.prog X.w X.K X.mg X.base CX k f fd ps sp) (hr : Room k X.A) (hb : Binds X.K fd ps ds) (hd : Vals dvs ds) (hx : Passes CX X E)
    (I : Inv X pins σ H s) (r : Vals vs us) (h : sp (vs ++ dvs) H Q E) : wpAny (model X.prog X.w) X.A (call (.ref f) us) (EP X pins σ Q) X.xe s := by
  have r2 : Vals (vs ++ dvs) (us ++ ds) := r.append hd
  have hl : (us ++ ds).length = ps.length := by rw [← r2.length]; exact F.len _ _ _ _ h
  refine wpAny_call (codeAny_mono (F.run X.A X.stack s H ⟨us, []⟩ (us ++ ds) (vs ++ dvs) Q E hr I.env0 (hb s us I.kIn hl) r2 h) fun r s' hq => ?_)
  cases r with
  | error e => exact hx pins σ H s e s' I hq
  | ok fl =>
    cases fl with
    | ret u => exact I.after hq
    | next => exact False.elim hq
    | brk => exact False.elim hq
    | cont => exact False.elim hq

theorem pe_call (F : FnOk X.prog X.w X.K X.mg X.base CX k f fd ps sp) (hr : Room k X.A) (hg : Gl X x) (hm : X.mg x = some (.ref f)) (hk : PySem.W.keepIn X.K (.ref f) = true) (hb : Binds X.K fd ps ds) (hd : Vals dvs ds) (hx : Passes CX X E)
    (ha : PA X (e :: es) t) (hdb : (x == ("__debug__" : Str)) = false := by decide) (he : starEach (e :: es) X.env = (false, eval e X.env) :: starEach es X.env := by rfl) (hpl : (backTo pos (starEach es X.env)).any (·.1) = false := by rfl) :
    PE X (.Call (.Name x p) (e :: es) [] pos) (tCall sp dvs E t) := by
  intro pins s σ H Q I h
  refine wpAny_Call_Name_kw (ld_glob I hg hm ?_ hdb)
  refine PySem.W.callWith_K (h₀ := X.base) I.ok.mod.kin hk (thn (ha pos pins s σ H _ I h) fun us s1 ⟨vs, H1, I1, r, q⟩ => ⟨I1.kIn, ?_⟩) he hpl
  exact run_fn F hr hb hd hx I1 r q
end
section
variable {X : Cx} {CX : CXT} {k : Nat} {f C : Addr} {fd : FuncData} {ps ks : List Str} {sp : Sp} {E : XK} {x m : Str} {p pos apos kpos : Pos} {e o : Expr} {es : List Expr} {kws : List Keyword} {te ta : TE} {t tk : TA} {nm : Option Str}
variable {g : List Value → List Value → List Value} {gV : List V → List V → List V}
end
structure FnScope (N P : List Str) (sc : Scope) : Prop where
  kind : sc.kind = .function
  co : sc.isCoroutine = false
  gen : sc.isGenerator = false
  nd : N.Nodup
  pre : N.take P.length = P
  par : ∀ x ∈ P, sc.names.lookup x = some .local ∨ sc.names.lookup x = some .cell
  nofree : ∀ y ∈ sc.names, y.2 ≠ .free

theorem bindL_out {kindOf : Str → Option NameKind} {x : Str} : ∀ {binds : List (Str × Value)} {m : Str → Option Value}, (∀ v, (x, v) ∉ binds) → bindL kindOf binds m x = m x
  | [], _, _ => rfl
  | (n, v) :: r, m, h => by
    unfold bindL
    rw [bindL_out fun w hw => h w (List.mem_cons_of_mem _ hw)]
    split
    · have : x ≠ n := by rintro rfl; exact h v List.mem_cons_self
      simp [this]
    · rfl
theorem bindC_out {kindOf : Str → Option NameKind} {x : Str} : ∀ {binds : List (Str × Value)} {m : Str → Option Value}, (∀ v, (x, v) ∉ binds) → bindC kindOf binds m x = m x
  | [], _, _ => rfl
  | (n, v) :: r, m, h => by
    unfold bindC
    rw [bindC_out fun w hw => h w (List.mem_cons_of_mem _ hw)]
    split
    · rfl
    · have : x ≠ n := by rintro rfl; exact h v List.mem_cons_self
      simp [this]
theorem bindL_get {kindOf : Str → Option NameKind} {x : Str} {v : Value} : ∀ {P : List Str} {vs : List Value} {i : Nat} {m : Str → Option Value}, P.Nodup → P[i]? = some x → vs[i]? = some v → kindOf x = some .local →
    bindL kindOf (P.zip vs) m x = some v
  | [], _, _, _, _, h, _, _ => by simp at h
  | _ :: _, [], _, _, _, _, h, _ => by simp at h
  | p :: P, w :: vs, 0, m, nd, h1, h2, hk => by
    simp at h1 h2; subst h1; subst h2
    show bindL kindOf ((p, w) :: P.zip vs) m p = _
    unfold bindL
    rw [bindL_out fun v hv => (List.nodup_cons.mp nd).1 (List.of_mem_zip hv).1, if_pos hk]
    simp
  | p :: P, w :: vs, i + 1, m, nd, h1, h2, hk => by
    show bindL kindOf ((p, w) :: P.zip vs) m x = _
    unfold bindL
    exact bindL_get (i := i) (List.nodup_cons.mp nd).2 (by simpa using h1) (by simpa using h2) hk
theorem bindC_get {kindOf : Str → Option NameKind} {x : Str} {v : Value} : ∀ {P : List Str} {vs : List Value} {i : Nat} {m : Str → Option Value}, P.Nodup → P[i]? = some x → vs[i]? = some v → kindOf x ≠ some .local →
    bindC kindOf (P.zip vs) m x = some v
  | [], _, _, _, _, h, _, _ => by simp at h
  | _ :: _, [], _, _, _, _, h, _ => by simp at h
  | p :: P, w :: vs, 0, m, nd, h1, h2, hk => by
    simp at h1 h2; subst h1; subst h2
    show bindC kindOf ((p, w) :: P.zip vs) m p = _
    unfold bindC
    rw [bindC_out fun v hv => (List.nodup_cons.mp nd).1 (List.of_mem_zip hv).1, if_neg hk]
    simp
  | p :: P, w :: vs, i + 1, m, nd, h1, h2, hk => by
    show bindC kindOf ((p, w) :: P.zip vs) m x = _
    unfold bindC
    exact bindC_get (i := i) (List.nodup_cons.mp nd).2 (by simpa using h1) (by simpa using h2) hk

noncomputable def start (N : List Str) (vs : List V) : St := vs.map some ++ List.replicate (N.length - vs.length) none

noncomputable def cxOf (CX : CXT) (P : Program) (w : World) (K : PySem.W.Frag) (mg : Str → Option Value) (base : Heap) (N : List Str) (qual : Str) (scope : Scope) (f : Addr) (cd : Value) (A : Around) (outer : List Env) (s : Shared) (H : Hp) (E : XK) : Cx where
  prog := P
  w := w
  K := K
  mg := mg
  base := base
  A := A.deeper (envOfC qual scope s.heap.objs.size f cd)
  N := N
  s₀ := s
  H₀ := H
  env := envOfC qual scope s.heap.objs.size f cd
  outer := outer
  stack := envOfC qual scope s.heap.objs.size f cd :: outer
  ex := []
  calm := true
  fn := fun _ => true
  pn := []
  xe := fun e s' => wpAny (model P w) (A.deeper (envOfC qual scope s.heap.objs.size f cd)) (leaving (envOfC qual scope s.heap.objs.size f cd) e) (fun _ s'' => CX outer H s E e s'') (fun e' s'' => CX outer H s E e' s'') s'

theorem cell_has {sc : Scope} {n : Nat} {x : Str} (h : sc.names.lookup x = some .cell) : ∃ c, (cellsFrom n sc.names []).lookup x = some c := by
  have q := PySem.W.cellsFrom_some sc.names n [] (.inl h)
  exact Option.isSome_iff_exists.mp q

theorem inv_start {CX : CXT} {P : Program} {w : World} {K : PySem.W.Frag} {mg : Str → Option Value} {base : Heap} {N ps : List Str} {qual : Str} {scope : Scope} {f : Addr} {cd : Value} {A : Around} {outer : List Env} {s s1 : Shared} {H : Hp} {E : XK} {us : List Value} {vs : List V}
    (S : FnScope N ps scope) (hd : A.handled = none) (e0 : Env0 P w K mg base A outer s H) (hl : vs.length = ps.length) (r : Vals vs us)
    (x : InCallC s s.heap.objs.size (bindL (envOfC qual scope s.heap.objs.size f cd).kindOf (ps.zip us) fun _ => none) (cellsFrom (s.heap.objs.size + 1) scope.names []) (bindC (envOfC qual scope s.heap.objs.size f cd).kindOf (ps.zip us) fun _ => none) s1) :
    Inv (cxOf CX P w K mg base N qual scope f cd A outer s H E) [] (start N vs) H s1 := by
  have hpl : ps.length ≤ N.length := by have := congrArg List.length S.pre; rw [List.length_take] at this; omega
  obtain ⟨h1, tk, rfl, hk⟩ := x.done
  have noA : ∀ b : Addr, b ∉ (cxOf CX P w K mg base N qual scope f cd A outer s H E).ex := fun b z => absurd (show b ∈ ([] : List Addr) from z) (by simp)
  refine ⟨⟨e0.mod, S.kind, rfl, rfl, Nat.le_refl _, fun y z c h1 h2 => ?_, fun y hy => ?_, fun y c _ h => ?_, fun _ => hd, Around.frames_deeper e0.frames, .inr ⟨rfl, rfl⟩, fun b z => absurd z (noA b), e0.bs, e0.bsz, fun b _ _ => noA b, fun b z => absurd z (noA b), e0.funs, e0.frf⟩,
    rfl, e0.bare, Un.kept hk, ⟨_, x.toInCall.ns, fun i y v h1 h2 h3 => ?_⟩, fun y c h => ⟨_, x.cell y c h⟩, e0.hok.fresh (Nat.le_refl _), fun y c h => ?_, fun p hp => absurd (show p ∈ ([] : List (Addr × Obj)) from hp) (by simp), e0.hok.kept hk, ?_⟩
  · exact name_of_addr x.apart (PySem.mem_of_lookup h1) (PySem.mem_of_lookup h2)
  · have hy : scope.names.lookup y = some .cell ∨ scope.names.lookup y = some .free := hy
    rcases hy with hy | hy
    · exact cell_has hy
    · exact absurd rfl (S.nofree _ (PySem.mem_of_lookup hy))
  · exact Nat.le_of_lt (x.above y c (PySem.mem_of_lookup h))
  · have hi : i < vs.length := by
      unfold start at h2
      by_cases hi : i < vs.length
      · exact hi
      · rw [List.getElem?_append_right (by simpa using hi)] at h2
        rw [List.getElem?_replicate] at h2
        split at h2 <;> cases h2
    have ha : vs[i]? = some v := by
      unfold start at h2
      rw [List.getElem?_append_left (by simpa using hi), List.getElem?_map] at h2
      cases e : vs[i]? with
      | none => rw [e] at h2; cases h2
      | some a => rw [e] at h2; cases h2; rfl
    obtain ⟨u, hu, rv⟩ := r.get ha
    have hp : ps[i]? = some y := by
      rw [← S.pre, List.getElem?_take_of_lt (by omega)]; exact h1
    have ndP : ps.Nodup := by rw [← S.pre]; exact S.nd.sublist (List.take_sublist _ _)
    refine ⟨u, rv, ?_⟩
    rcases S.par y (List.mem_of_getElem? hp) with k | k
    · exact .inl ⟨k, bindL_get ndP hp hu k⟩
    · obtain ⟨c, e⟩ := cell_has (n := s.heap.objs.size + 1) k
      refine .inr ⟨.inl k, c, e, ?_⟩
      have q := x.cell y c e
      rw [bindC_get ndP hp hu (by show scope.names.lookup y ≠ _; rw [k]; decide)] at q
      exact q
  · exact e0.hok.fresh (Nat.le_of_lt (x.above y c (PySem.mem_of_lookup h)))
  · unfold start
    show _ = N.length
    rw [List.length_append, List.length_map, List.length_replicate]
    omega

theorem fn_of {CX : CXT} {P : Program} {w : World} {K : PySem.W.Frag} {mg : Str → Option Value} {base : Heap} {k : Nat} {f : Addr} {name qual : Str} {params : Arguments} {body : List Stmt} {scope : Scope} {dV kV doc pm cdv ct oc : Value} {an od : Option Addr}
    {osl : Array (Option Value)} {N ps : List Str} {sp : Sp} (lk : K.lookup f = some ⟨oc, od, .func (PySem.W.fnOf name qual params body scope dV kV doc pm an cdv ct), osl⟩) (hcd : PySem.W.codeIn K cdv qual = true) (S : FnScope N ps scope)
    (len : ∀ vs H Q E, sp vs H Q E → vs.length = ps.length)
    (hbody : ∀ (A : Around) (outer : List Env) (s : Shared) (H : Hp) (vs : List V) (Q : VK) (E : XK), Room k (A.deeper (envOfC qual scope s.heap.objs.size f cdv)) → sp vs H Q E →
      ∃ t, PSs (cxOf CX P w K mg base N qual scope f cdv A outer s H E) body t ∧ t { nx := fun _ H' => Q .non H', rt := Q } (start N vs) H) :
    FnOk P w K mg base CX (k + 1) f (PySem.W.fnOf name qual params body scope dV kV doc pm an cdv ct) ps sp := by
  refine ⟨len, fun A outer s H args us vs Q E hr e0 hb r hsp => ?_⟩
  have hl := len _ _ _ _ hsp
  have KX : K.In s.heap := e0.mod.kin.keeps fun b o e => (e0.bs b o e).1
  have lim : s.heap.NoLimit := e0.mod.nolimit.keeps fun b o e => (e0.bs b o e).1
  have hkind : ∀ y ∈ ps.zip us, scope.names.lookup y.1 = some .local ∨ (scope.names.lookup y.1 = some .cell ∧ ((cellsFrom (s.heap.objs.size + 1) scope.names []).lookup y.1).isSome = true) := fun ⟨n, v⟩ hy => by
    rcases S.par n (List.of_mem_zip hy).1 with q | q
    · exact .inl q
    · exact .inr ⟨q, PySem.W.cellsFrom_some _ _ _ (.inl q)⟩
  refine codeAny_call_function hr.depth (KX _ _ lk) rfl S.co S.gen rfl (PySem.W.codeRec_of KX hcd) (hb _ _ _ _ ?_)
  refine wpAny_newFunctionEnv_cells S.kind hkind fun env he s1 x => ?_
  subst he
  refine ⟨lim.keeps x.toInCall.keep, codeAny_func ?_⟩
  obtain ⟨t, ht, hq⟩ := hbody A outer s H vs Q E (hr.deeper _) hsp
  have I : Inv (cxOf CX P w K mg base N qual scope f cdv A outer s H E) [] (start N vs) H s1 := inv_start S hr.hd e0 hl r x
  refine wpAny_mono (ht [] s1 (start N vs) H _ I hq) (fun fl s' hs => ?_) fun e s' hs => hs
  have fin : ∀ {σ' : St} {H' : Hp} {v : V} {u : Value}, Inv (cxOf CX P w K mg base N qual scope f cdv A outer s H E) [] σ' H' s' → RelV v u → Q v H' → CE outer P w H s Q u s' :=
    fun {σ' H' v u} J rv q => ⟨v, H', J.os, J.bare, J.base, J.hok, rv, q⟩
  cases fl with
  | ret u =>
    obtain ⟨v, σ', H', J, rv, q⟩ := hs
    exact fin J rv q
  | next =>
    obtain ⟨σ', H', J, q⟩ := hs
    exact fin (v := V.non) (u := Value.none) J rfl q
  | brk =>
    obtain ⟨_, _, _, q⟩ := hs
    exact False.elim q
  | cont =>
    obtain ⟨_, _, _, q⟩ := hs
    exact False.elim q
end L2
namespace L2
open PySem PySem.Spec PyProof.Rows
section
variable {X : Cx} {x : Str} {p pos : Pos} {e : Expr} {es : List Expr} {t : TA} {id T : String} {r : List V → Hp → VK → Prop}
noncomputable def tCB (r : List V → Hp → VK → Prop) (t : TA) : TE := fun σ H Q => t σ H fun vs H1 => r vs H1 Q
theorem pe_callB (hc : CallR X (.builtin id) r) (hg : Gl X x) (hm : X.mg x = none) (hv : bootBuiltins x = some (.builtin id)) (ha : PA X (e :: es) t) (hn : x ≠ "__name__" := by decide) (hdb : (x == ("__debug__" : Str)) = false := by decide)
    (he : starEach (e :: es) X.env = (false, eval e X.env) :: starEach es X.env := by rfl) (hpl : (backTo pos (starEach es X.env)).any (·.1) = false := by rfl) : PE X (.Call (.Name x p) (e :: es) [] pos) (tCB r t) := by
  intro pins s σ H Q I h
  refine wpAny_Call_Name_kw (ld_blt I hg hm hv ?_ hn hdb)
  exact PyProof.Rows.callWith_builtin1 (thn (ha pos pins s σ H _ I h) fun us s1 ⟨vs, H1, I1, r1, q1⟩ => hc pins s1 σ H1 vs us Q I1 r1 q1) he hpl
theorem pe_callTy (hc : CallR X (.type T) r) (hg : Gl X x) (hm : X.mg x = none) (hv : bootBuiltins x = some (.type T)) (ha : PA X (e :: es) t) (hn : x ≠ "__name__" := by decide) (hdb : (x == ("__debug__" : Str)) = false := by decide)
    (he : starEach (e :: es) X.env = (false, eval e X.env) :: starEach es X.env := by rfl) (hpl : (backTo pos (starEach es X.env)).any (·.1) = false := by rfl) : PE X (.Call (.Name x p) (e :: es) [] pos) (tCB r t) := by
  intro pins s σ H Q I h
  refine wpAny_Call_Name_kw (ld_blt I hg hm hv ?_ hn hdb)
  exact PyProof.Rows.callWith_type1 (thn (ha pos pins s σ H _ I h) fun us s1 ⟨vs, H1, I1, r1, q1⟩ => hc pins s1 σ H1 vs us Q I1 r1 q1) he hpl
end
end L2
namespace HT
open PySem PyProof.Rows
section
open PySem.SeqAt
open PySem.AutoSeq1 (wpAny_loadPart')
open PySem.MeetsSeq PySem.MeetsSeq2 PySem.MeetsSeq3
end
section
variable {prog : Program} {w : World} {A : Around} {E : Value → Shared → Prop} {s : Shared}
noncomputable def sIx (n d : Nat) : Option Int → Nat
  | none => d
  | some v => if v < 0 then (v + (n : Int)).toNat else min v.toNat n
theorem sIx_le (n d : Nat) (hd : d ≤ n) (o : Option Int) : sIx n d o ≤ n := by
  cases o with
  | none => exact hd
  | some v =>
    show (if v < 0 then (v + (n : Int)).toNat else min v.toNat n) ≤ n
    by_cases hv : v < 0
    · rw [if_pos hv]; omega
    · rw [if_neg hv]; exact Nat.min_le_right _ _
theorem clip_eq (v : Int) (n d : Nat) : (if v < 0 then max (v + (n : Int)) 0 else min v (n : Int)) = ((sIx n d (some v) : Nat) : Int) := by
  show (if v < 0 then max (v + (n : Int)) 0 else min v (n : Int)) = (((if v < 0 then (v + (n : Int)).toNat else min v.toNat n) : Nat) : Int)
  by_cases hv : v < 0
  · simp only [if_pos hv]; omega
  · simp only [if_neg hv]; omega
theorem adjust_gen (lo hi : Option Int) (n : Nat) : Builtin.Slice.sliceAdjust lo hi 1 (n : Int) = (((sIx n 0 lo : Nat) : Int), ((sIx n n hi : Nat) : Int)) := by
  have h1 : ¬ ((1 : Int) < 0) := by omega
  unfold Builtin.Slice.sliceAdjust
  simp only [h1, if_false]
  refine Prod.ext ?_ ?_
  · cases lo with
    | none => rfl
    | some v => exact clip_eq v n 0
  · cases hi with
    | none => rfl
    | some v => exact clip_eq v n n
theorem places_gen (i j : Nat) : Builtin.Slice.slicePlaces (i : Int) (j : Int) 1 = j - i := by
  unfold Builtin.Slice.slicePlaces
  have h1 : (1 : Int) > 0 := by omega
  simp only [h1, if_true, Int.ediv_one]
  split <;> omega
theorem slicePart_ {v : Value} {o : Option Int} {Q : Option Int → Shared → Prop} (p : IsPart v o) (h : Q o s) : wpAny (model prog w) A (Builtin.Slice.slicePartIndex v) Q E s := by
  cases p with
  | none => exact slicePart_none h
  | int i t => exact slicePart_int h
theorem sliceApplied_gen {sl : Addr} {vl vu : Value} {lo hi : Option Int} {n : Nat} {Q : Int × Int × Nat → Shared → Prop} (hs : s.heap.IsSliceOf sl vl vu .none) (pl : IsPart vl lo) (pu : IsPart vu hi)
    (h : Q (((sIx n 0 lo : Nat) : Int), 1, sIx n n hi - sIx n 0 lo) s) : wpAny (model prog w) A (Builtin.Slice.sliceApplied (.ref sl) (pure (n : Int))) Q E s := by
  obtain ⟨os, hos, hcs, hds⟩ := id hs
  unfold Builtin.Slice.sliceApplied Builtin.Slice.sliceFields
  refine wpAny_bind (wpAny_bind (wpAny_field hos hds (x := vl) rfl (wpAny_bind (wpAny_field hos hds (x := vu) rfl (wpAny_bind (wpAny_field hos hds (x := .none) rfl (wpAny_pure ?_)))))))
  refine wpAny_bind (slicePart_none ?_)
  show wpAny _ _ (if ((1 : Int) == 0) = true then _ else _) _ _ s
  rw [if_neg (by decide)]
  refine wpAny_bind (slicePart_ pl (wpAny_bind (slicePart_ pu (wpAny_bind (wpAny_pure ?_)))))
  show wpAny _ _ (match Builtin.Slice.sliceAdjust lo hi 1 (n : Int) with | (lo, hi) => pure (lo, (1 : Int), Builtin.Slice.slicePlaces lo hi 1)) _ _ s
  rw [adjust_gen lo hi n]
  show wpAny _ _ (pure (((sIx n 0 lo : Nat) : Int), (1 : Int), Builtin.Slice.slicePlaces ((sIx n 0 lo : Nat) : Int) ((sIx n n hi : Nat) : Int) 1)) _ _ s
  rw [places_gen]
  exact wpAny_pure h
theorem pick_gen (xs : Array Value) (i k : Nat) : ((List.range k).filterMap fun (m : Nat) => xs[((i : Int) + (m : Int) * 1).toNat]?).toArray = ((xs.toList.drop i).take k).toArray := by
  have e : (fun (m : Nat) => xs[((i : Int) + (m : Int) * 1).toNat]?) = fun m => xs[i + m]? := by
    funext m
    have : ((i : Int) + (m : Int) * 1).toNat = i + m := by omega
    rw [this]
  rw [e]
  have := pick_run xs i k
  rw [List.filterMap_map] at this
  have e2 : ((fun x => xs[x]?) ∘ fun x => i + x) = fun m => xs[i + m]? := rfl
  rw [e2] at this
  rw [this]

theorem getItem_tuple_cut {t sl : Addr} {items : Array Value} {vl vu : Value} {lo hi : Option Int} {Q : Value → Shared → Prop} (ht : IsTup s.heap t items) (hs : s.heap.IsSliceOf sl vl vu .none) (pl : IsPart vl lo) (pu : IsPart vu hi)
    (hw : ¬ (sIx items.size 0 lo = 0 ∧ sIx items.size items.size hi = items.size))
    (h : Q (.ref s.heap.objs.size) { s with heap := s.heap.push { cls := .type "tuple", data := .seq ((items.toList.drop (sIx items.size 0 lo)).take (sIx items.size items.size hi - sIx items.size 0 lo)).toArray } })
    (hsz : items.size ≤ sizeLine) : wpAny (model prog w) A (getItem (.ref t) (.ref sl)) Q E s := by
  have htake : sizeOk (.seq ((items.toList.drop (sIx items.size 0 lo)).take (sIx items.size items.size hi - sIx items.size 0 lo)).toArray) := by
    show ((items.toList.drop (sIx items.size 0 lo)).take (sIx items.size items.size hi - sIx items.size 0 lo)).toArray.size ≤ sizeLine
    rw [List.size_toArray, List.length_take, List.length_drop, Array.length_toList]
    omega
  have hj : sIx items.size items.size hi ≤ items.size := sIx_le _ _ (Nat.le_refl _) hi
  obtain ⟨os, hos, hcs, hds⟩ := id hs
  have hTs : s.TypeIs (.ref sl) "slice" := ⟨os, hos, hcs⟩
  unfold getItem
  try with_reducible refine wpAny_holding ?_
  first | refine wpAny_bind (wpAny_pure ?_) | skip
  refine wpAny_bind (wpAny_sequenceKey ht.typeIs (by decide) ?_)
  refine wpAny_bind (wpAny_callSpecial?_slot (name := Str.ofString "__getitem__") ht.typeIs PyProof.Rows.slot_tuple_getitem
    (wpAny_call_entry PyProof.Rows.slot_tuple_getitem ht.typeIs entry_tuple_getitem ?_ (args_tuple_getitem _ _)))
  show wpAny _ _ (Builtin.Tuple.tupleItemsOf (.ref t) >>= _) _ _ s
  refine wpAny_bind (tupleItemsOf_ ht ?_)
  refine wpAny_bind (wpAny_typeOf hTs ?_)
  rw [if_pos (by decide)]
  refine wpAny_bind (sliceApplied_gen hs pl pu ?_)
  have hno : ¬ ((((sIx items.size 0 lo : Nat) : Int) == 0 && (1 : Int) == 1 && (sIx items.size items.size hi - sIx items.size 0 lo) == items.size) = true) := by
    intro q
    rw [Bool.and_eq_true, Bool.and_eq_true] at q
    have q1 : ((sIx items.size 0 lo : Nat) : Int) = 0 := eq_of_beq q.1.1
    have q2 : sIx items.size items.size hi - sIx items.size 0 lo = items.size := eq_of_beq q.2
    exact hw ⟨by omega, by omega⟩
  show wpAny _ _ (if (((sIx items.size 0 lo : Nat) : Int) == 0 && (1 : Int) == 1 && (sIx items.size items.size hi - sIx items.size 0 lo) == items.size) = true then _ else _) _ _ s
  rw [if_neg hno, pick_gen]
  first
    | exact wpAny_bind (m := Builtin.Tuple.tupleExact _) (wpAny_newObj_type (wpAny_pure ⟨_, rfl, wpAny_pure h⟩) htake)
    | exact wpAny_bind (m := Builtin.Tuple.tupleExact _) (wpAny_newObj_type (wpAny_bind (wpAny_pure (wpAny_pure ⟨_, rfl, wpAny_pure h⟩))) htake)
    | exact wpAny_bind (wpAny_bind (m := Builtin.Tuple.tupleExact _) (wpAny_newObj_type (wpAny_pure (wpAny_pure ⟨_, rfl, wpAny_pure h⟩)) htake))
    | exact wpAny_bind (wpAny_bind (m := Builtin.Tuple.tupleExact _) (wpAny_newObj_type (wpAny_pure ⟨_, rfl, wpAny_pure h⟩) htake))
end
end HT
namespace L2
open PySem PySem.Spec PyProof.Rows
noncomputable abbrev TO := St → Hp → (Option Int → Hp → Prop) → Prop
noncomputable def PO (X : Cx) (e : Option Expr) (t : TO) : Prop :=
  ∀ (pins : List (Addr × Obj)) (s : Shared) (σ : St) (H : Hp) (Q : Option Int → Hp → Prop), Inv X pins σ H s → t σ H Q →
    wpAny (model X.prog X.w) X.A (evalPart e X.env) (fun u s' => ∃ o H', Inv X pins σ H' s' ∧ IsPart u o ∧ Q o H') X.xe s
noncomputable def tNoPart : TO := fun _ H Q => Q none H
noncomputable def tPart (t : TE) : TO := fun σ H Q => t σ H fun x H1 => ∃ i, x = .int i ∧ Q (some i) H1

section
variable {X : Cx} {e : Expr} {te : TE} {lo hi : Option Expr} {tl th : TO} {pos p2 : Pos}
theorem po_none : PO X none tNoPart := by
  intro pins s σ H Q I h
  rw [evalPart_none]
  exact wpAny_pure ⟨none, H, I, .none, h⟩
theorem po_some (h : PE X e te) : PO X (some e) (tPart te) := by
  intro pins s σ H Q I hw
  rw [evalPart_some]
  refine thn (h pins s σ H _ I hw) fun u s1 ⟨x, H1, I1, r1, q1⟩ => ?_
  obtain ⟨i, rfl, q⟩ := q1
  obtain ⟨t, rfl⟩ := r1
  exact ⟨some i, H1, I1, .int i t, q⟩

noncomputable def SlR (X : Cx) (r : V → Option Int → Option Int → Hp → VK → Prop) : Prop :=
  ∀ (pins : List (Addr × Obj)) (s : Shared) (σ : St) (H : Hp) (x : V) (v vl vu : Value) (lo hi : Option Int) (sl : Addr) (Q : VK), Inv X pins σ H s → RelV x v → s.heap.IsSliceOf sl vl vu .none → IsPart vl lo → IsPart vu hi → r x lo hi H Q →
    ∃ T id, typeLookup (.type T) "__getitem__" = pure (some (.builtin id)) ∧ s.TypeIs v T ∧ wpAny (model X.prog X.w) X.A (getItem v (.ref sl)) (EP X pins σ Q) X.xe s
theorem SlR.or {r r' : V → Option Int → Option Int → Hp → VK → Prop} (h : SlR X r) (h' : SlR X r') : SlR X (fun x lo hi H Q => r x lo hi H Q ∨ r' x lo hi H Q) := by
  intro pins s σ H x v vl vu lo hi sl Q I rx hs pl pu q
  rcases q with q | q
  · exact h pins s σ H x v vl vu lo hi sl Q I rx hs pl pu q
  · exact h' pins s σ H x v vl vu lo hi sl Q I rx hs pl pu q
noncomputable def tSl (r : V → Option Int → Option Int → Hp → VK → Prop) (te : TE) (tl th : TO) : TE := fun σ H Q => te σ H fun x H1 => tl σ H1 fun l H2 => th σ H2 fun u H3 => r x l u H3 Q
theorem pe_slice {r : V → Option Int → Option Int → Hp → VK → Prop} (hr : SlR X r) (he : PE X e te) (hl : PO X lo tl) (hu : PO X hi th) : PE X (.Subscript e (.Slice lo hi none p2) pos) (tSl r te tl th) := by
  intro pins s σ H Q I h
  refine Subscript_ (thn (he pins s σ H _ I h) fun v s1 ⟨x, H1, I1, r1, q1⟩ => ?_)
  refine wpAny_Slice (thn (hl pins s1 σ H1 _ I1 q1) fun vl s2 ⟨l, H2, I2, pl, q2⟩ => thn (hu pins s2 σ H2 _ I2 q2) fun vu s3 ⟨u, H3, I3, pu, q3⟩ => ?_)
  rw [evalPart_none]
  refine wpAny_pure ?_
  have I4 : Inv X pins σ H3 { s3 with heap := s3.heap.push { cls := .type "slice", data := .fields #[vl, vu, .none] } } := I3.kept (t' := s3.toks) fun b ob q => Heap.get?_push_of_some _ q
  obtain ⟨T, id, hT, ht, hg⟩ := hr pins { s3 with heap := s3.heap.push { cls := .type "slice", data := .fields #[vl, vu, .none] } } σ H3 x v vl vu l u s3.heap.objs.size Q I4 r1 (Heap.IsSliceOf.new ..) pl pu q3
  show wpAny (model X.prog X.w) X.A (subscriptTail e (.Slice lo hi none p2) v (.ref s3.heap.objs.size)) (EP X pins σ Q) X.xe { s3 with heap := s3.heap.push { cls := .type "slice", data := .fields #[vl, vu, .none] } }
  exact tail_any (ops := [.ref s3.heap.objs.size, v]) ht hT hg (by with_unfolding_all rfl)

noncomputable def cutV (xs : List V) (lo hi : Option Int) : List V := (xs.drop (HT.sIx xs.length 0 lo)).take (HT.sIx xs.length xs.length hi - HT.sIx xs.length 0 lo)
theorem cutV_length (xs : List V) (lo hi : Option Int) : (cutV xs lo hi).length ≤ xs.length := by
  unfold cutV
  rw [List.length_take, List.length_drop]
  omega
noncomputable def rSlT (K : PySem.W.Frag) : V → Option Int → Option Int → Hp → VK → Prop := fun x lo hi H Q => ∃ a xs, x = .ref a ∧ SqT K H a xs ∧
  ¬ (HT.sIx xs.length 0 lo = 0 ∧ HT.sIx xs.length xs.length hi = xs.length) ∧ ∀ p, H p = none → Q (.ref p) (upd H p (.tup (cutV xs lo hi)))
theorem sl_tup : SlR X (rSlT X.K) := by
  intro pins s σ H x v vl vu lo hi sl Q I rx hs pl pu h
  obtain ⟨a, xs, rfl, hx, hw, q⟩ := h
  cases rx
  obtain ⟨its, r, ht, hz⟩ := I.tuple hx
  have hlen : its.toArray.size = xs.length := by rw [List.size_toArray]; exact r.length.symm
  refine ⟨"tuple", _, PyProof.Rows.slot_tuple_getitem.lookup, ht.typeIs, ?_⟩
  refine HT.getItem_tuple_cut ht hs pl pu (by rw [hlen]; exact hw) ?_ (by rw [hlen]; exact hz)
  rw [hlen]
  refine ⟨.ref s.heap.objs.size, _, I.laid (t' := s.toks) (o := .tup (cutV xs lo hi)) (fun b ob q => Heap.get?_push_of_some _ q) (Nat.le_refl _) ?_, rfl, q _ (I.hok.fresh (Nat.le_refl _))⟩
  exact ⟨Nat.le_trans (cutV_length xs lo hi) hz, _, (r.drop (HT.sIx xs.length 0 lo)).take (HT.sIx xs.length xs.length hi - HT.sIx xs.length 0 lo), IsTup.new _ _⟩

end
end L2
namespace L2
open PySem PySem.Spec PyProof.Rows
noncomputable def ixN (n : Nat) (i : Int) : Option Nat := if 0 ≤ i then (if i < n then some i.toNat else none) else if -(n : Int) ≤ i then some (i + n).toNat else none
noncomputable def atI {α : Type} (xs : List α) (i : Int) : Option α := (ixN xs.length i).bind fun j => xs[j]?
theorem ixN_seq {n : Nat} {i : Int} {j : Nat} (h : ixN n i = some j) : seqIndex? i n = some j ∧ j < n ∧ -(n : Int) ≤ i ∧ i < n := by
  unfold ixN at h
  by_cases h0 : 0 ≤ i
  · rw [if_pos h0] at h
    by_cases h1 : i < n
    · rw [if_pos h1] at h
      have e : i.toNat = j := Option.some.inj h
      exact ⟨by rw [seqIndex_of h0 h1, e], by omega, by omega, h1⟩
    · rw [if_neg h1] at h; cases h
  · rw [if_neg h0] at h
    by_cases h1 : -(n : Int) ≤ i
    · rw [if_pos h1] at h
      have e : (i + n).toNat = j := Option.some.inj h
      exact ⟨by rw [seqIndex_neg (by omega) h1, e], by omega, h1, by omega⟩
    · rw [if_neg h1] at h; cases h
theorem atI_get {α : Type} {xs : List α} {i : Int} {v : α} (h : atI xs i = some v) : ∃ j, seqIndex? i xs.length = some j ∧ xs[j]? = some v ∧ j < xs.length ∧ -(xs.length : Int) ≤ i ∧ i < xs.length := by
  unfold atI at h
  cases e : ixN xs.length i with
  | none => rw [e] at h; cases h
  | some j =>
    rw [e] at h
    obtain ⟨h1, h2, h3, h4⟩ := ixN_seq e
    exact ⟨j, h1, h, h2, h3, h4⟩
theorem atI_nat {α : Type} {xs : List α} {j : Nat} {v : α} (h : xs[j]? = some v) : atI xs (j : Int) = some v := by
  have hj : j < xs.length := (List.getElem?_eq_some_iff.mp h).1
  have e : ixN xs.length (j : Int) = some j := by
    unfold ixN
    rw [if_pos (by omega), if_pos (by omega)]; simp
  unfold atI; rw [e]; exact h
noncomputable def PlainIx (b : Expr) : Prop := ∀ o i, subscripted b false o i = operate [o, i] (getItem o i)
noncomputable def IxR (X : Cx) (r : R2) : Prop :=
  ∀ (value slice : Expr) (pins : List (Addr × Obj)) (s : Shared) (σ : St) (H : Hp) (x y : V) (v u : Value) (Q : VK), Inv X pins σ H s → RelV x v → RelV y u → r x y H Q →
    subscripted slice false v u = operate [v, u] (getItem v u) → wpAny (model X.prog X.w) X.A (subscriptTail value slice v u) (EP X pins σ Q) X.xe s
noncomputable def MtR (X : Cx) (id : String) (r : V → List V → Hp → VK → Prop) : Prop :=
  ∀ (pins : List (Addr × Obj)) (s : Shared) (σ : St) (H : Hp) (x : V) (xs : List V) (v : Value) (us : List Value) (Q : VK), Inv X pins σ H s → RelV x v → Vals xs us → r x xs H Q →
    wpAny (model X.prog X.w) X.A (call (.builtin id) (v :: us)) (EP X pins σ Q) X.xe s
section
variable {X : Cx} {a b : Expr} {ta tb : TE} {pos : Pos}
theorem IxR.or {r r' : R2} (h : IxR X r) (h' : IxR X r') : IxR X (fun x y H Q => r x y H Q ∨ r' x y H Q) := by
  intro value slice pins s σ H x y v u Q I rx ry q hs
  rcases q with q | q
  · exact h value slice pins s σ H x y v u Q I rx ry q hs
  · exact h' value slice pins s σ H x y v u Q I rx ry q hs
theorem pe_ix {r : R2} (hr : IxR X r) (ha : PE X a ta) (hb : PE X b tb) (hs : PlainIx b) : PE X (.Subscript a b pos) (tOp r ta tb) := by
  intro pins s σ H Q I h
  exact Subscript_ (binT ha hb I h fun v u s2 x y H2 I2 rx ry q => hr a b pins s2 σ H2 x y v u Q I2 rx ry q (hs _ _))

noncomputable def rIxL (K : PySem.W.Frag) : R2 := fun x y H Q => ∃ p xs i v, x = .ref p ∧ y = .int i ∧ SqL K H p xs ∧ atI xs i = some v ∧ Q v H
noncomputable def rIxT (K : PySem.W.Frag) : R2 := fun x y H Q => ∃ p xs i v, x = .ref p ∧ y = .int i ∧ SqT K H p xs ∧ atI xs i = some v ∧ Q v H
noncomputable def rIxS : R2 := fun x y H Q => ∃ z i c, x = .str z ∧ y = .int i ∧ z.length ≤ sizeLine ∧ atI z.cps.toList i = some c ∧ Q (.str ⟨#[c]⟩) H
theorem ix_list : IxR X (rIxL X.K) := by
  intro value slice pins s σ H x y v u Q I rx ry h hs
  obtain ⟨p, xs, i, z, rfl, rfl, hq, he, q⟩ := h
  cases rx
  obtain ⟨t, rfl⟩ := ry
  obtain ⟨its, r, pl, hz⟩ := I.list hq
  obtain ⟨j, h1, h2, h3, h4, h5⟩ := atI_get he
  obtain ⟨w, ew, rw'⟩ := r.get h2
  have hl := r.length
  have hn := line63
  have fin : EP X pins σ Q w s := ⟨z, H, I, rw', q⟩
  by_cases h0 : 0 ≤ i
  · have hj : i.toNat = j := by
      rw [seqIndex_of h0 h5] at h1
      exact Option.some.inj h1
    exact item_listR pl.isList h0 (by omega) (by rw [hj]; simpa using ew) fin hs
  · have hj : (i + (its.toArray.size : Int)).toNat = j := by
      rw [seqIndex_neg (by omega) h4] at h1
      rw [List.size_toArray, ← hl]
      exact Option.some.inj h1
    exact subscriptTail_builtinR (x := w) pl.isList.typeIs slot_list_getitem.lookup
      (wpAny_getItem_list_neg (Q := fun r s' => r = w ∧ EP X pins σ Q r s') pl.isList (by omega) (by rw [List.size_toArray] <;> omega) (by omega) (by rw [hj]; simpa using ew) ⟨rfl, fin⟩) hs
theorem ix_tup : IxR X (rIxT X.K) := by
  intro value slice pins s σ H x y v u Q I rx ry h hs
  obtain ⟨p, xs, i, z, rfl, rfl, hq, he, q⟩ := h
  cases rx
  obtain ⟨t, rfl⟩ := ry
  obtain ⟨its, r, pl, hz⟩ := I.tuple hq
  obtain ⟨j, h1, h2, h3, h4, h5⟩ := atI_get he
  obtain ⟨w, ew, rw'⟩ := r.get h2
  have hl := r.length
  have hn := line63
  have fin : EP X pins σ Q w s := ⟨z, H, I, rw', q⟩
  exact subscriptTail_builtinR (x := w) pl.typeIs slot_tuple_getitem.lookup
    (getItem_tuple (j := j) (Q := fun r s' => r = w ∧ EP X pins σ Q r s') pl (by omega) (by omega) (by rw [List.size_toArray, ← hl]; exact h1) (by simpa using ew) ⟨rfl, fin⟩) hs
theorem ix_str : IxR X rIxS := by
  intro value slice pins s σ H x y v u Q I rx ry h hs
  obtain ⟨z, i, c, rfl, rfl, hz, he, q⟩ := h
  obtain ⟨t, rfl⟩ := rx
  obtain ⟨t', rfl⟩ := ry
  obtain ⟨j, h1, h2, h3, h4, h5⟩ := atI_get he
  have hl : z.cps.toList.length = z.length := by simp [Str.length]
  rw [hl] at h1 h4 h5
  have hn := line63
  exact tail_any (typeIs_str s z t) slot_str_getitem.lookup (getItem_str (c := c) (by
    have e1 : decide (i < -(2 ^ 63 : Int)) = false := decide_eq_false (by omega)
    have e2 : decide (i ≥ 2 ^ 63) = false := decide_eq_false (by omega)
    rw [e1, e2, Bool.or_false]) (by rw [h1]; simpa using h2) ⟨.str ⟨#[c]⟩, H, I.tok _, ⟨_, rfl⟩, q⟩) hs
noncomputable def rIx (K : PySem.W.Frag) : R2 := fun x y H Q => rIxL K x y H Q ∨ rIxT K x y H Q ∨ rIxS x y H Q
theorem ix_seq : IxR X (rIx X.K) := ix_list.or (ix_tup.or ix_str)

theorem mapSeq_set (its : List Value) (n j : Nat) (u : Value) : Obj.mapSeq (·.setIfInBounds j u) { cls := .type "list", data := .seq its.toArray n } = { cls := .type "list", data := .seq (its.set j u).toArray n } := by
  simp [Obj.mapSeq]
theorem Inv.lst {pins : List (Addr × Obj)} {σ : St} {H : Hp} {s : Shared} {p : Addr} {xs : List V} (I : Inv X pins σ H s) (h : H p = some (.lst xs)) :
    ∃ (its : List Value) (n : Nat), Vals xs its ∧ s.heap.get? p = some { cls := .type "list", data := .seq its.toArray n } ∧ xs.length ≤ sizeLine := by
  obtain ⟨z, its, n, r, e⟩ := I.hok p _ h
  exact ⟨its, n, r, e, z⟩
theorem Inv.lstUpd {pins : List (Addr × Obj)} {σ : St} {H : Hp} {s : Shared} {p : Addr} {xs ys : List V} {its its' : List Value} {n n' : Nat} {f : Obj → Obj} (I : Inv X pins σ H s) (h : H p = some (.lst xs))
    (ho : s.heap.get? p = some { cls := .type "list", data := .seq its.toArray n }) (hf : f { cls := .type "list", data := .seq its.toArray n } = { cls := .type "list", data := .seq its'.toArray n' }) (r : Vals ys its') (hz : ys.length ≤ sizeLine) (t : Nat) :
    Inv X pins σ (upd H p (.lst ys)) { s with heap := s.heap.update p f, toks := t } := by
  have e : (s.heap.update p f).get? p = some { cls := .type "list", data := .seq its'.toArray n' } := by
    rw [Heap.get?_update_self f ho (by rw [hf] <;> rfl), hf]
  refine I.write (x := p) (e := p) (by rw [h]; trivial) (.inl rfl) (fun b u hb q => (Heap.get?_update_other _ _ (Ne.symm hb)).trans q) ⟨_, e⟩ ?_
  exact ⟨hz, its', n', r, e⟩
noncomputable def rSetL : V → V → V → Hp → (Hp → Prop) → Prop := fun o i v H Q => ∃ p xs k j, o = .ref p ∧ i = .int k ∧ H p = some (.lst xs) ∧ ixN xs.length k = some j ∧ Q (upd H p (.lst (xs.set j v)))
theorem set_list : PSet X rSetL := by
  intro pins s σ H o i v ov iv u Q I ro ri rv h
  obtain ⟨p, xs, k, j, rfl, rfl, hp, hj, q⟩ := h
  cases ro
  obtain ⟨t, rfl⟩ := ri
  obtain ⟨its, n, r, ho, hz⟩ := I.lst hp
  obtain ⟨h1, h2, h3, h4⟩ := ixN_seq hj
  have hl := r.length
  have hn := line63
  have I' : Inv X pins σ (upd H p (.lst (xs.set j v))) { s with heap := s.heap.update p (Obj.mapSeq (·.setIfInBounds j u)) } :=
    I.lstUpd hp ho (mapSeq_set its n j u) (r.set rv j) (by rw [List.length_set]; exact hz) s.toks
  by_cases h0 : 0 ≤ k
  · have hk : k.toNat = j := by
      rw [seqIndex_of h0 h4] at h1
      exact Option.some.inj h1
    exact PySem.W.ki_setAt ho h0 (by omega) (by rw [List.size_toArray, ← hl]; exact h4) (by rw [hk]; exact ⟨_, I', q⟩)
  · have hk : (k + (its.toArray.size : Int)).toNat = j := by
      rw [seqIndex_neg (by omega) h3] at h1
      rw [List.size_toArray, ← hl]
      exact Option.some.inj h1
    exact PySem.W.ki_setBack ho (by omega) (by rw [List.size_toArray, ← hl]; exact h3) (by omega) (by rw [hk]; exact ⟨_, I', q⟩)

theorem slice_bounds (lo hi : Option Int) (n : Nat) : (sliceBounds lo hi none n).1 = ((HT.sIx n 0 lo : Nat) : Int) ∧ (sliceBounds lo hi none n).2.1 = ((HT.sIx n n hi : Nat) : Int) ∧ (sliceBounds lo hi none n).2.2 = 1 := by
  refine ⟨?_, ?_, rfl⟩
  · cases lo with
    | none => simp [sliceBounds, HT.sIx]
    | some i =>
      simp only [sliceBounds, HT.sIx, Option.getD_none, show (1 : Int) > 0 by decide, if_true]
      by_cases h : i < 0
      · simp only [h, if_true] <;> omega
      · simp only [h, if_false] <;> omega
  · cases hi with
    | none => simp [sliceBounds, HT.sIx]
    | some i =>
      simp only [sliceBounds, HT.sIx, Option.getD_none, show (1 : Int) > 0 by decide, if_true]
      by_cases h : i < 0
      · simp only [h, if_true] <;> omega
      · simp only [h, if_false] <;> omega
theorem slicePick_cut (its : List Value) (lo hi : Option Int) : slicePick its.toArray lo hi none = ((its.drop (HT.sIx its.length 0 lo)).take (HT.sIx its.length its.length hi - HT.sIx its.length 0 lo)).toArray := by
  obtain ⟨h1, h2, h3⟩ := slice_bounds lo hi its.toArray.size
  unfold slicePick
  rw [h1, h2, h3]
  simp only [sliceRange_one, pick_run, List.size_toArray] <;> rfl
noncomputable def rSlL (K : PySem.W.Frag) : V → Option Int → Option Int → Hp → VK → Prop := fun x lo hi H Q => ∃ a xs, x = .ref a ∧ SqL K H a xs ∧ ∀ p, H p = none → Q (.ref p) (upd H p (.lst (cutV xs lo hi)))
theorem sl_list : SlR X (rSlL X.K) := by
  intro pins s σ H x v vl vu lo hi sl Q I rx hs pl pu h
  obtain ⟨a, xs, rfl, hx, q⟩ := h
  cases rx
  obtain ⟨its, r, ht, hz⟩ := I.list hx
  have hlen := r.length
  refine ⟨"list", _, slot_list_getitem.lookup, ht.isList.typeIs, ?_⟩
  refine wpAny_getItem_list_slice ht.isList hs pl pu .none (by simp) ?_ (by rw [List.size_toArray] <;> omega)
  rw [slicePick_cut, ← hlen]
  refine ⟨.ref s.heap.objs.size, _, I.laid (t' := s.toks) (o := .lst (cutV xs lo hi)) (fun b ob q => Heap.get?_push_of_some _ q) (Nat.le_refl _) ?_, rfl, q _ (I.hok.fresh (Nat.le_refl _))⟩
  exact ⟨Nat.le_trans (cutV_length xs lo hi) hz, _, 0, (r.drop (HT.sIx xs.length 0 lo)).take (HT.sIx xs.length xs.length hi - HT.sIx xs.length 0 lo), Heap.get?_push_size _ rfl⟩

theorem call_len_seq : CallR X (.builtin "len") (fun xs H Q => ∃ p ys, xs = [.ref p] ∧ (SqL X.K H p ys ∨ SqT X.K H p ys) ∧ Q (.int ys.length) H) := by
  intro pins s σ H xs us Q I r h
  obtain ⟨p, ys, rfl, hq, q⟩ := h
  obtain ⟨u, rfl, rx⟩ := vals1 r
  cases rx
  have hn := line63
  rcases hq with hq | hq
  · obtain ⟨its, r', pl, hz⟩ := I.list hq
    have hlen := r'.length
    exact Calls.call_len_list pl.isList (by simp only [List.size_toArray] <;> omega) ⟨.int ys.length, H, I.tok _, ⟨s.toks + 1, by rw [List.size_toArray, hlen]⟩, q⟩
  · obtain ⟨its, r', pl, hz⟩ := I.tuple hq
    have hlen := r'.length
    exact len_tuple pl (by simp only [List.size_toArray] <;> omega) ⟨.int ys.length, H, I.tok _, ⟨s.toks + 1, by rw [List.size_toArray, hlen]⟩, q⟩
theorem call_list_of : CallR X (.type "list") (fun xs H Q => ∃ p ys, xs = [.ref p] ∧ (SqL X.K H p ys ∨ SqT X.K H p ys) ∧ ∀ l, H l = none → Q (.ref l) (upd H l (.lst ys))) := by
  intro pins s σ H xs us Q I r h
  obtain ⟨p, ys, rfl, hq, q⟩ := h
  obtain ⟨u, rfl, rx⟩ := vals1 r
  cases rx
  have fin : ∀ (its : List Value), Vals ys its → ys.length ≤ sizeLine → ∀ (h' : Heap) (c' : Nat), (∀ b o', s.heap.get? b = some o' → h'.get? b = some o') →
      h'.get? s.heap.objs.size = some { cls := .type "list", dict := none, data := .seq its.toArray c', slots := #[] } → EP X pins σ Q (.ref s.heap.objs.size) { s with heap := h' } := fun its r' hz h' c' kp e =>
    ⟨.ref s.heap.objs.size, _, I.laid (t' := s.toks) kp (Nat.le_refl _) (show ObjOk X.prog X.w _ h' _ (.lst ys) from ⟨hz, its, c', r', e⟩), rfl, q _ (I.hok.fresh (Nat.le_refl _))⟩
  rcases hq with hq | hq
  · obtain ⟨its, r', pl, hz⟩ := I.list hq
    have hlen := r'.length
    obtain ⟨o, ho, hc, n, hd⟩ := pl.isList
    exact call_list_seq p (.inl rfl) ho hc hd (fun h' c' kp e => fin its r' hz h' c' kp e) (by simp only [List.size_toArray] <;> omega)
  · obtain ⟨its, r', pl, hz⟩ := I.tuple hq
    have hlen := r'.length
    obtain ⟨o, ho, hc, n, hd⟩ := pl
    exact call_list_seq p (.inr rfl) ho hc hd (fun h' c' kp e => fin its r' hz h' c' kp e) (by simp only [List.size_toArray] <;> omega)
noncomputable def tyV (K : PySem.W.Frag) (T : String) (x : V) (H : Hp) : Prop := match x with
  | .str _ => T = "str"
  | .int _ => T = "int"
  | .ref p => (T = "list" ∧ ∃ xs, SqL K H p xs) ∨ (T = "tuple" ∧ ∃ o, K.lookup p = some o ∧ o.cls = .type "tuple" ∧ o.dict = none) ∨
      (T = "dict" ∧ ((∃ kvs, H p = some (.dK kvs)) ∨ ∃ kvs, H p = some (.dT kvs))) ∨ (T = "set" ∧ ∃ S n, H p = some (.set S n))
  | _ => False
theorem tyV_is {pins : List (Addr × Obj)} {σ : St} {H : Hp} {s : Shared} {T : String} {x : V} {v : Value} (I : Inv X pins σ H s) (r : RelV x v) (ty : tyV X.K T x H) :
    s.TypeIs v T ∧ ∀ a, v = .ref a → ∃ ob, s.heap.get? a = some ob ∧ ob.dict = none := by
  cases x with
  | str z =>
    obtain ⟨t, rfl⟩ := r
    cases (show T = "str" from ty)
    exact ⟨typeIs_str s z t, fun _ e => nomatch e⟩
  | int i =>
    obtain ⟨t, rfl⟩ := r
    cases (show T = "int" from ty)
    exact ⟨typeIs_int s i t, fun _ e => nomatch e⟩
  | ref p =>
    cases r
    rcases ty with ⟨rfl, xs, hq⟩ | ⟨rfl, o, hk, hc, hd⟩ | ⟨rfl, hk⟩ | ⟨rfl, S, n, hk⟩
    · obtain ⟨its, _, pl, _⟩ := I.list hq
      refine ⟨pl.isList.typeIs, fun a e => ?_⟩
      cases e
      obtain ⟨o, n, e, c, hd, _⟩ := pl
      exact ⟨o, e, hd⟩
    · refine ⟨⟨o, I.kIn p o hk, hc⟩, fun a e => ?_⟩
      cases e
      exact ⟨o, I.kIn _ o hk, hd⟩
    · have z : ∃ o, s.heap.get? p = some o ∧ o.ExactDict := by
        rcases hk with ⟨kvs, hk⟩ | ⟨kvs, hk⟩
        · obtain ⟨_, _, _, _, o, _, _, e, ex, _⟩ := I.hok p _ hk
          exact ⟨o, e, ex⟩
        · obtain ⟨_, _, _, _, o, _, _, e, ex, _⟩ := I.hok p _ hk
          exact ⟨o, e, ex⟩
      obtain ⟨o, e, ex⟩ := z
      refine ⟨⟨o, e, ex.1⟩, fun a e2 => ?_⟩
      cases e2
      exact ⟨o, e, ex.2.1⟩
    · obtain ⟨o, _, _, _, e, ex, _⟩ := I.hok p _ hk
      refine ⟨⟨o, e, ex.1⟩, fun a e2 => ?_⟩
      cases e2
      exact ⟨o, e, ex.2.1⟩
  | _ => exact False.elim ty
noncomputable def tBM (K : PySem.W.Frag) (T : String) (r : V → List V → Hp → VK → Prop) (to : TE) (t : TA) : TE := fun σ H Q => to σ H fun x H1 => tyV K T x H1 ∧ t σ H1 fun xs H2 => r x xs H2 Q
variable {o e : Expr} {es : List Expr} {to : TE} {t : TA} {name : Str} {apos cpos : Pos} {T id : String} {r : V → List V → Hp → VK → Prop}
theorem pe_bm (pa : PlainAttrs T) (slot : Slot T name id) (hty : typeOf (.builtin id) = pure (.type "method_descriptor")) (hm : MtR X id r) (ho : PE X o to) (ha : PA X (e :: es) t)
    (hbase : attributeBase o name X.env (eval o X.env) = eval o X.env := by rfl)
    (hfew : ((backTo cpos (starEach (e :: es) X.env)).all (fun x => !x.1) && (backToKw cpos (keywordEach [] X.env)).all (fun x => x.1.isSome)
      && decide ((e :: es).length + ([] : List Keyword).length + (if ([] : List Keyword).isEmpty then 0 else 1) < 30)) = true := by rfl)
    (hline : (apos.endLine == cpos.line) = true := by rfl) (hs : starEach (e :: es) X.env = (false, eval e X.env) :: starEach es X.env := by rfl) (hplain : (backTo cpos (starEach es X.env)).any (·.1) = false := by rfl) :
    PE X (.Call (.Attribute o name apos) (e :: es) [] cpos) (tBM X.K T r to t) := by
  intro pins s σ H Q I h
  refine wpAny_Call_method_late hbase hfew hline rfl (thn (ho pins s σ H _ I h) fun v s1 ⟨x, H1, I1, r1, ty, q1⟩ => ?_)
  obtain ⟨h1, h2⟩ := tyV_is I1 r1 ty
  refine ⟨T, id, pa, slot, hty, h1, h2, ?_⟩
  have hA := ha cpos pins s1 σ H1 _ I1 q1
  rw [hs] at hA ⊢
  refine Calls.callWith_builtin (by show (false || (backTo cpos (starEach es X.env)).any (·.1)) = false; rw [hplain] <;> rfl) (Calls.evalArgs_plain ?_)
  exact thn hA fun us s2 ⟨vs, H2, I2, r2, q2⟩ => hm pins s2 σ H2 x vs v us Q I2 r1 r2 q2
end
end L2
namespace L2
open PySem PySem.Spec PyProof.Rows
noncomputable def MtM (X : Cx) (id : String) (r : V → List V → Hp → VK → Prop) : Prop :=
  ∀ (pins : List (Addr × Obj)) (s : Shared) (σ : St) (H : Hp) (x : V) (xs : List V) (v : Value) (us : List Value) (Q : VK), Inv X pins σ H s → RelV x v → Vals xs us → r x xs H Q →
    wpAny (model X.prog X.w) X.A (call (.builtin id) (v :: us)) (EP X pins σ Q) X.xe s

theorem Vals.one : ∀ {x : V} {us : List Value}, Vals [x] us → ∃ u, us = [u] ∧ RelV x u
  | _, _, .cons r .nil => ⟨_, rfl, r⟩
theorem Vals.reverse {xs : List V} {us : List Value} (h : Vals xs us) : Vals xs.reverse us.reverse := by
  induction h with
  | nil => exact .nil
  | cons r t ih => rw [List.reverse_cons, List.reverse_cons]; exact Vals.append ih (.cons r .nil)
theorem Vals.rep {xs : List V} {us : List Value} (h : Vals xs us) : ∀ k : Nat, Vals (List.replicate k xs).flatten (List.replicate k us).flatten
  | 0 => .nil
  | k + 1 => by
    rw [List.replicate_succ, List.replicate_succ, List.flatten_cons, List.flatten_cons]
    exact Vals.append h (Vals.rep h k)
theorem foldl_rep (its : List Value) : ∀ (k : Nat) (acc : List Value),
    List.foldl (fun x1 x2 => x1 ++ x2) acc.toArray (List.replicate k its.toArray) = (acc ++ (List.replicate k its).flatten).toArray
  | 0, acc => by simp
  | k + 1, acc => by
    have e : acc.toArray ++ its.toArray = (acc ++ its).toArray := by simp
    have e2 : (acc ++ its) ++ (List.replicate k its).flatten = acc ++ (List.replicate (k + 1) its).flatten := by
      rw [List.replicate_succ, List.flatten_cons, List.append_assoc]
    rw [← e2, ← foldl_rep its k (acc ++ its), ← e, List.replicate_succ, List.foldl_cons]

section
variable {X : Cx} {pins : List (Addr × Obj)} {σ : St} {H : Hp} {s : Shared} {l b : Addr} {xs ys zs : List V}
theorem Inv.lset {its its' : List Value} {n : Nat} {f : Array Value → Array Value} {t' : Nat} (I : Inv X pins σ H s) (hH : H l = some (.lst xs))
    (e : s.heap.get? l = some { cls := .type "list", data := .seq its.toArray n }) (hf : f its.toArray = its'.toArray) (hv : Vals ys its') (hz : ys.length ≤ sizeLine) :
    Inv X pins σ (upd H l (.lst ys)) { s with heap := s.heap.update l (Obj.mapSeq f), toks := t' } := by
  have q := PySem.IsL.update e f
  rw [hf] at q
  refine I.write (x := l) (e := l) (by rw [hH]; exact trivial) (.inl rfl) (fun b' u hb hu => (Heap.get?_update_other s.heap (Obj.mapSeq f) (Ne.symm hb)).trans hu) ⟨_, q⟩ ?_
  exact ⟨hz, its', _, hv, q⟩
theorem Inv.lnew {its : List Value} {t' : Nat} (I : Inv X pins σ H s) (hv : Vals ys its) (hz : ys.length ≤ sizeLine) :
    Inv X pins σ (upd H s.heap.objs.size (.lst ys)) { s with heap := s.heap.push { cls := .type "list", data := .seq its.toArray }, toks := t' } :=
  I.laid (fun _ _ q => Heap.get?_push_of_some _ q) (Nat.le_refl _) ⟨hz, its, 0, hv, Heap.get?_push_size _ rfl⟩
theorem Inv.fresh (I : Inv X pins σ H s) : H s.heap.objs.size = none := I.hok.fresh (Nat.le_refl _)
theorem Inv.lstM (I : Inv X pins σ H s) (hH : H l = some (.lst xs)) : xs.length ≤ sizeLine ∧ ∃ (its : List Value) (n : Nat), Vals xs its ∧ xs.length = its.length ∧ s.heap.get? l = some { cls := .type "list", data := .seq its.toArray n } := by
  obtain ⟨z, its, n, r, e⟩ := I.hok l _ hH
  exact ⟨z, its, n, r, r.length, e⟩

theorem notLongL {n : Nat} (h : n ≤ sizeLine) : Builtin.List.listTooLong n = false := by
  unfold Builtin.List.listTooLong
  exact decide_eq_false (by omega)
end
section
variable {X : Cx}
noncomputable def rAppend : V → List V → Hp → VK → Prop := fun x vs H Q => ∃ l xs y, x = .ref l ∧ vs = [y] ∧ H l = some (.lst xs) ∧ xs.length < sizeLine ∧ Q .non (upd H l (.lst (xs ++ [y])))
theorem mt_append : MtM X "list.append" rAppend := by
  intro pins s σ H x vs v us Q I rx rv h
  obtain ⟨l, xs, y, rfl, rfl, hH, hz, q⟩ := h
  cases rx
  obtain ⟨u, rfl, ru⟩ := rv.one
  obtain ⟨z, its, n, r, hl, e⟩ := I.lstM hH
  refine call_meets F.slot_list_append ⟨_, e, rfl⟩ F.entry_list_append (F.args_list_append_2 _ _) (PySem.list_append l its.toArray n u (by rw [List.size_toArray]; omega)) ⟨e, ?_⟩
  refine ⟨.non, _, I.lset (its' := its ++ [u]) hH e (by simp) (r.append (.cons ru .nil)) ?_, rfl, q⟩
  rw [List.length_append, List.length_singleton]
  omega

noncomputable def rCat : R2 := fun x y H Q => ∃ l b xs zs, x = .ref l ∧ y = .ref b ∧ H l = some (.lst xs) ∧ H b = some (.lst zs) ∧ xs.length + zs.length ≤ sizeLine ∧ ∀ p, H p = none → Q (.ref p) (upd H p (.lst (xs ++ zs)))
theorem op_cat : OpR X (binaryOp .Add) rCat := by
  intro pins s σ H x y v u Q I rx ry h
  obtain ⟨l, b, xs, zs, rfl, rfl, hH, hB, hz, q⟩ := h
  cases rx
  cases ry
  obtain ⟨z, its, n, r, hl, e⟩ := I.lstM hH
  obtain ⟨z2, its2, n2, r2, hl2, e2⟩ := I.lstM hB
  refine PySem.P.add_list e e2 ?_ (by rw [List.size_toArray, List.size_toArray]; omega)
  have ea : its.toArray ++ its2.toArray = (its ++ its2).toArray := by simp
  rw [ea]
  exact ⟨.ref _, _, I.lnew (t' := s.toks) (r.append r2) (by rw [List.length_append]; omega), rfl, q _ I.fresh⟩
noncomputable def rRep : R2 := fun x y H Q => ∃ l k xs, x = .ref l ∧ y = .int k ∧ H l = some (.lst xs) ∧ -(2 ^ 63) ≤ k ∧ k < 2 ^ 63 ∧ xs.length * k.toNat ≤ sizeLine ∧
  ∀ p, H p = none → Q (.ref p) (upd H p (.lst (List.replicate k.toNat xs).flatten))
theorem len_rep {α : Type} (xs : List α) (k : Nat) : (List.replicate k xs).flatten.length = k * xs.length := by
  induction k with
  | zero => simp
  | succ k ih => rw [List.replicate_succ, List.flatten_cons, List.length_append, ih, Nat.succ_mul, Nat.add_comm]
theorem op_rep : OpR X (binaryOp .Mult) rRep := by
  intro pins s σ H x y v u Q I rx ry h
  obtain ⟨l, k, xs, rfl, rfl, hH, h1, h2, hz, q⟩ := h
  cases rx
  obtain ⟨t, rfl⟩ := ry
  obtain ⟨z, its, n, r, hl, e⟩ := I.lstM hH
  have hlen : its.toArray.size * k.toNat ≤ sizeLine := by rw [List.size_toArray, ← hl]; exact hz
  have hcap : ¬ its.toArray.size * k.toNat > (2 ^ 63 - 1) / 8 := by
    have : (sizeLine : Nat) ≤ (2 ^ 63 - 1) / 8 := by decide
    omega
  have hfit : ¬ (!Builtin.List.listFitsIndex k) = true := by
    rw [fitsIndex_both h1 h2]
    exact Bool.false_ne_true
  have hlong : ¬ Builtin.List.listTooLong (its.toArray.size * k.toNat) = true := by
    rw [notLongL hlen]
    exact Bool.false_ne_true
  have hnew : List.foldl (fun x1 x2 => x1 ++ x2) #[] (List.replicate (if its.toArray.isEmpty = true then 0 else k.toNat) its.toArray) = (List.replicate k.toNat its).flatten.toArray := by
    have f0 : ∀ m : Nat, List.foldl (fun x1 x2 => x1 ++ x2) #[] (List.replicate m its.toArray) = (List.replicate m its).flatten.toArray := fun m => by
      have := foldl_rep its m []
      rw [List.nil_append] at this
      exact this
    rw [f0]
    cases its with
    | nil => simp
    | cons a r' => rw [if_neg (by simp)]
  refine wpAny_binaryOp_repeat_ref (T := "list") (U := "int") (by decide) ⟨_, e, rfl⟩ (fun s' => typeIs_int s' k t) noFill_list_mul F.fills_int_mul F.slot_int_rmul repeat_list F.slot_int_index.lookup
    (call_meets F.slot_int_rmul (typeIs_int s k t) F.entry_int_rmul (F.args_int_rmul_2 _ _) (int___rmul___int_list k t l its.toArray n)
      ⟨e, rfl, ⟨_, e, rfl⟩, call_meets F.slot_list_mul ⟨_, e, rfl⟩ F.entry_list_mul (F.args_list_mul_2 _ _) (AutoListH.list___mul___list_int_3 l its.toArray n k t hfit hcap hlong) ⟨e, ?_⟩⟩)
  rw [hnew]
  exact ⟨.ref _, _, I.lnew (t' := s.toks) (r.rep k.toNat) (by rw [len_rep, Nat.mul_comm]; exact hz), rfl, q _ I.fresh⟩

end
section
variable {prog : Program} {w : World} {A : Around} {E : Value → Shared → Prop} {s : Shared}
end
section
variable {X : Cx}
end
end L2
namespace L2
open PySem PySem.Spec PyProof.Rows
section
variable {κ : Type} [DecidableEq κ]
noncomputable def valV (kvs : List (κ × V)) (k : κ) : Option V := (kvs.find? fun kv => decide (kv.1 = k)).map (·.2)
noncomputable def putK (kvs : List (κ × V)) (k : κ) (v : V) : List (κ × V) :=
  if (kvs.any fun kv => decide (kv.1 = k)) = true then kvs.map (fun kv => if kv.1 = k then (kv.1, v) else kv) else kvs ++ [(k, v)]
theorem valV_nil {k : κ} : valV ([] : List (κ × V)) k = none := rfl
theorem valV_pos {p : κ × V} {r : List (κ × V)} {k : κ} (e : p.1 = k) : valV (p :: r) k = some p.2 := by simp [valV, List.find?_cons, e]
theorem valV_neg {p : κ × V} {r : List (κ × V)} {k : κ} (e : ¬ p.1 = k) : valV (p :: r) k = valV r k := by simp [valV, List.find?_cons, e]
theorem valV_any (k : κ) : ∀ kvs : List (κ × V), (kvs.any fun kv => decide (kv.1 = k)) = (valV kvs k).isSome
  | [] => rfl
  | p :: r => by
    rw [List.any_cons]
    by_cases e : p.1 = k
    · simp only [valV_pos e, decide_eq_true e, Bool.true_or, Option.isSome_some]
    · rw [valV_neg e, decide_eq_false e, Bool.false_or]; exact valV_any k r
theorem length_putK (kvs : List (κ × V)) (k : κ) (v : V) : (putK kvs k v).length ≤ kvs.length + 1 := by
  unfold putK
  split
  · rw [List.length_map]; omega
  · rw [List.length_append, List.length_cons, List.length_nil]; omega
theorem RelO.isSome_eq {o : Option V} {u : Option Value} (r : RelO o u) : o.isSome = u.isSome := by
  cases o with
  | none => cases u with
    | none => rfl
    | some _ => exact (show False from r).elim
  | some _ => cases u with
    | none => exact (show False from r).elim
    | some _ => rfl
theorem KV.val {kvs : List (κ × V)} {vs : List (κ × Value)} (r : KV kvs vs) (k : κ) : RelO (valV kvs k) (valueAt vs k) := by
  unfold KV at r
  induction r with
  | nil => exact True.intro
  | @cons p q ps qs h t ih =>
    obtain ⟨h1, h2⟩ := h
    by_cases e : p.1 = k
    · have e' : q.1 = k := h1.symm.trans e
      have b : valueAt (q :: qs) k = some q.2 := by simp [valueAt, List.find?_cons, e']
      rw [valV_pos e, b]; exact h2
    · have e' : ¬ q.1 = k := fun z => e (h1.trans z)
      have b : valueAt (q :: qs) k = valueAt qs k := by simp [valueAt, List.find?_cons, e']
      rw [valV_neg e, b]; exact ih
theorem KV.any {kvs : List (κ × V)} {vs : List (κ × Value)} (r : KV kvs vs) (k : κ) : (kvs.any fun kv => decide (kv.1 = k)) = vs.any fun kv => decide (kv.1 = k) := by
  unfold KV at r
  induction r with
  | nil => rfl
  | cons h t ih => rw [List.any_cons, List.any_cons, ih, h.1]
theorem KV.repl {kvs : List (κ × V)} {vs : List (κ × Value)} (r : KV kvs vs) (k : κ) {y : V} {u : Value} (ry : RelV y u) :
    KV (kvs.map fun kv => if kv.1 = k then (kv.1, y) else kv) (vs.map fun kv => if kv.1 = k then (kv.1, u) else kv) := by
  unfold KV at r ⊢
  induction r with
  | nil => exact .nil
  | @cons p q ps qs h t ih =>
    rw [List.map_cons, List.map_cons]
    refine .cons ?_ ih
    obtain ⟨h1, h2⟩ := h
    by_cases e : p.1 = k
    · rw [if_pos e, if_pos (h1.symm.trans e)]; exact ⟨h1, ry⟩
    · rw [if_neg e, if_neg (fun z => e (h1.trans z))]; exact ⟨h1, h2⟩
theorem KV.put {kvs : List (κ × V)} {vs : List (κ × Value)} (r : KV kvs vs) (k : κ) {y : V} {u : Value} (ry : RelV y u) : KV (putK kvs k y) (stored vs k u) := by
  unfold putK stored
  rw [r.any k]
  by_cases e : (vs.any fun kv => decide (kv.1 = k)) = true
  · rw [if_pos e, if_pos e]; exact r.repl k ry
  · rw [if_neg e, if_neg e]; exact Paired.snoc r ⟨rfl, ry⟩
theorem KV.length {kvs : List (κ × V)} {vs : List (κ × Value)} (r : KV kvs vs) : kvs.length = vs.length := Paired.length r
end
theorem kV_is {P : Program} {w : World} {k : Key} {u : Value} (r : RelV (kV k) u) : (mixKind P w).is k u = true := by
  cases k with
  | inl i => obtain ⟨t, e⟩ := (show ∃ t, u = Value.int i t from r); subst e; exact mixKind_int P w i t
  | inr x => obtain ⟨t, e⟩ := (show ∃ t, u = Value.str x t from r); subst e; exact mixKind_str P w x t
theorem items_are {P : Program} {w : World} : ∀ {ks : List Key} {us : List Value}, Vals (ks.map kV) us → ItemsAre (mixKind P w) ks us
  | [], _, r => by rw [List.map_nil] at r; cases r; exact .nil
  | k :: ks, _, r => by
    rw [List.map_cons] at r
    cases r with
    | cons h t => exact .cons (kV_is h) (items_are t)

noncomputable abbrev KT (H : Hp) : List (List Key × V) → List (List Key × Addr × Value) → Prop := Paired fun p q => p.1 = q.1 ∧ H q.2.1 = some (.tup (p.1.map kV)) ∧ RelV p.2 q.2.2
theorem KT.val {H : Hp} {kvs : List (List Key × V)} {xs : List (List Key × Addr × Value)} (r : KT H kvs xs) (k : List Key) : RelO (valV kvs k) ((atKey xs k).map (·.2)) := by
  induction r with
  | nil => exact True.intro
  | @cons p q ps qs h t ih =>
    obtain ⟨h1, _, h2⟩ := h
    by_cases e : p.1 = k
    · have e' : q.1 = k := h1.symm.trans e
      have b : atKey (q :: qs) k = some q.2 := by simp [atKey, List.find?_cons, e']
      rw [valV_pos e, b]; exact h2
    · have e' : ¬ q.1 = k := fun z => e (h1.trans z)
      have b : atKey (q :: qs) k = atKey qs k := by simp [atKey, List.find?_cons, e']
      rw [valV_neg e, b]; exact ih
theorem KT.repl {H : Hp} {kvs : List (List Key × V)} {xs : List (List Key × Addr × Value)} (r : KT H kvs xs) (k : List Key) {y : V} {u : Value} (ry : RelV y u) :
    KT H (kvs.map fun kv => if kv.1 = k then (kv.1, y) else kv) (xs.map (putAt k u)) := by
  induction r with
  | nil => exact .nil
  | @cons p q ps qs h t ih =>
    rw [List.map_cons, List.map_cons]
    refine .cons ?_ ih
    obtain ⟨h1, h2, h3⟩ := h
    unfold putAt
    by_cases e : p.1 = k
    · rw [if_pos e, if_pos (h1.symm.trans e)]; exact ⟨h1, h2, ry⟩
    · rw [if_neg e, if_neg (fun z => e (h1.trans z))]; exact ⟨h1, h2, h3⟩
theorem KT.put {H : Hp} {kvs : List (List Key × V)} {xs : List (List Key × Addr × Value)} (r : KT H kvs xs) (k : List Key) {b : Addr} {y : V} {u : Value} (hb : H b = some (.tup (k.map kV))) (ry : RelV y u) :
    KT H (putK kvs k y) (storedH xs k b u) := by
  have e : (kvs.any fun kv => decide (kv.1 = k)) = (atKey xs k).isSome := by
    rw [valV_any, (r.val k).isSome_eq, Option.isSome_map]
  unfold putK storedH
  rw [e]
  by_cases q : (atKey xs k).isSome = true
  · rw [if_pos q, if_pos q]; exact r.repl k ry
  · rw [if_neg q, if_neg q]; exact Paired.snoc r ⟨rfl, hb, ry⟩
theorem KT.keeps {H H' : Hp} {kvs : List (List Key × V)} {xs : List (List Key × Addr × Value)} (r : KT H kvs xs) (ht : ∀ b ys, H b = some (.tup ys) → H' b = some (.tup ys)) : KT H' kvs xs :=
  Paired.mapP r fun _ _ z => ⟨z.1, ht _ _ z.2.1, z.2.2⟩

section
variable {P : Program} {w : World} {H : Hp} {h : Heap} {a : Addr}
theorem rd_of {u : HO} (ok : HOk P w H h) (e : Rd H a u) : ObjOk P w H h a u := e.ok ok
theorem dk_rd {kvs : List (Key × V)} (ok : HOk P w H h) (e : Rd H a (.dK kvs)) : kvs.length ≤ sizeLine ∧ (a == sysModules) = false ∧ ∃ vs, KV kvs vs ∧ h.DictOf (mixKind P w) a vs :=
  show ObjOk P w H h a (.dK kvs) from rd_of ok e
theorem dk_of {kvs : List (Key × V)} (ok : HOk P w H h) (e : H a = some (.dK kvs)) : kvs.length ≤ sizeLine ∧ (a == sysModules) = false ∧ ∃ vs, KV kvs vs ∧ h.DictOf (mixKind P w) a vs := dk_rd ok (.inl e)
theorem key_of {ks : List Key} (ok : HOk P w H h) (e : H a = some (.tup (ks.map kV))) : (tupleKind (mixKind P w)).is h ks a := by
  obtain ⟨_, its, r, o, h1, h2, n, h3⟩ := (show ObjOk P w H h a (.tup (ks.map kV)) from ok a _ e)
  exact ⟨o, its.toArray, n, h1, h2, h3, by simpa using items_are r⟩
theorem dt_rd {kvs : List (List Key × V)} (ok : HOk P w H h) (e : Rd H a (.dT kvs)) : kvs.length ≤ sizeLine ∧ (a == sysModules) = false ∧
    ∃ xs, KT H kvs xs ∧ h.DictOfH (tupleKind (mixKind P w)) a xs := by
  obtain ⟨z, y, xs, r, o, es, ep, h1, h2, h3, h4, h5⟩ := (show ObjOk P w H h a (.dT kvs) from rd_of ok e)
  refine ⟨z, y, xs, r, o, es, ep, h1, h2, h3, h4, fun x hx => ?_, h5⟩
  have all : ∀ {l : List (List Key × V)} {m : List (List Key × Addr × Value)}, KT H l m → ∀ x ∈ m, (tupleKind (mixKind P w)).is h x.1 x.2.1 := by
    intro l m q
    induction q with
    | nil => intro x hx; exact nomatch hx
    | @cons p q ps qs hq t ih =>
      intro x hx
      rcases List.mem_cons.mp hx with e | hx
      · subst e
        exact key_of ok (by rw [← hq.1]; exact hq.2.1)
      · exact ih x hx
  exact all r x hx
theorem dt_of {kvs : List (List Key × V)} (ok : HOk P w H h) (e : H a = some (.dT kvs)) : kvs.length ≤ sizeLine ∧ (a == sysModules) = false ∧
    ∃ xs, KT H kvs xs ∧ h.DictOfH (tupleKind (mixKind P w)) a xs := dt_rd ok (.inl e)
end
noncomputable def DGet (H : Hp) (a : Addr) (y : V) (r : Option V) : Prop :=
  (∃ kvs k, Rd H a (.dK kvs) ∧ y = kV k ∧ r = valV kvs k) ∨ ∃ kvs k b, Rd H a (.dT kvs) ∧ y = .ref b ∧ H b = some (.tup (k.map kV)) ∧ r = valV kvs k
noncomputable def DPut (H : Hp) (a : Addr) (y v : V) (H' : Hp) : Prop :=
  (∃ kvs k, H a = some (.dK kvs) ∧ y = kV k ∧ kvs.length < sizeLine ∧ H' = upd H a (.dK (putK kvs k v))) ∨
  ∃ kvs k b, H a = some (.dT kvs) ∧ y = .ref b ∧ H b = some (.tup (k.map kV)) ∧ kvs.length < sizeLine ∧ H' = upd H a (.dT (putK kvs k v))
theorem DGet.k {H : Hp} {a : Addr} {kvs : List (Key × V)} {k : Key} (e : H a = some (.dK kvs)) : DGet H a (kV k) (valV kvs k) := .inl ⟨kvs, k, .inl e, rfl, rfl⟩
theorem DGet.t {H : Hp} {a b : Addr} {kvs : List (List Key × V)} {k : List Key} (e : H a = some (.dT kvs)) (eb : H b = some (.tup (k.map kV))) : DGet H a (.ref b) (valV kvs k) := .inr ⟨kvs, k, b, .inl e, rfl, eb, rfl⟩
theorem DPut.k {H : Hp} {a : Addr} {kvs : List (Key × V)} {k : Key} {v : V} (e : H a = some (.dK kvs)) (hl : kvs.length < sizeLine) : DPut H a (kV k) v (upd H a (.dK (putK kvs k v))) := .inl ⟨kvs, k, e, rfl, hl, rfl⟩
theorem DPut.t {H : Hp} {a b : Addr} {kvs : List (List Key × V)} {k : List Key} {v : V} (e : H a = some (.dT kvs)) (eb : H b = some (.tup (k.map kV))) (hl : kvs.length < sizeLine) :
    DPut H a (.ref b) v (upd H a (.dT (putK kvs k v))) := .inr ⟨kvs, k, b, e, rfl, eb, hl, rfl⟩


section
variable {X : Cx} {pins : List (Addr × Obj)} {σ : St} {H : Hp} {s : Shared} {a : Addr} {y v : V} {u r : Value} {o : Option V} {A : Around} {E : Value → Shared → Prop}
theorem Inv.big (I : Inv X pins σ H s) : sysModules < s.heap.objs.size := by
  have h : mainGlobals < s.heap.objs.size := (I.mod.glob.keeps I.bk).lt
  exact Nat.lt_trans (by decide) h

theorem d_getItem {Q : Value → Shared → Prop} (hu : A.units + 1 < cLine) (I : Inv X pins σ H s) (g : DGet H a y (some v)) (ry : RelV y u) (h : ∀ w' s', Inv X pins σ H s' → RelV v w' → Q w' s') :
    wpAny (model X.prog X.w) A (getItem (.ref a) u) Q E s := by
  rcases g with ⟨kvs, k, e, ey, l⟩ | ⟨kvs, k, b, e, ey, eb, l⟩
  · subst ey
    obtain ⟨z, hd, vs, rel, dd⟩ := dk_rd I.hok e
    obtain ⟨w', hw, rw'⟩ := RelO.some_of (v := v) (o := valueAt vs k) (by rw [l]; exact rel.val k)
    exact wpAny_getItem_of (kV_is ry) dd.mapOf hw (h w' _ (I.tok _) rw')
  · subst ey
    cases (show u = Value.ref b from ry)
    obtain ⟨z, hd, xs, rel, dd⟩ := dt_rd I.hok e
    obtain ⟨w', hw, rw'⟩ := RelO.some_of (v := v) (o := (atKey xs k).map (·.2)) (by rw [l]; exact rel.val k)
    obtain ⟨p, hp, hp2⟩ := Option.map_eq_some_iff.mp hw
    refine wpAny_getItem_heap (tupleKind_room_in1 hu) (key_of I.hok eb) dd hp ?_
    rw [hp2]
    exact h w' _ (I.tok _) rw'
theorem d_in {Q : Value → Shared → Prop} (hu : A.units + 1 < cLine) (I : Inv X pins σ H s) (g : DGet H a y o) (ry : RelV y u) (h : ∀ s', Inv X pins σ H s' → Q (.bool o.isSome) s') :
    wpAny (model X.prog X.w) A (compareOp .In u (.ref a)) Q E s := by
  rcases g with ⟨kvs, k, e, ey, l⟩ | ⟨kvs, k, b, e, ey, eb, l⟩
  · subst ey
    obtain ⟨z, hd, vs, rel, dd⟩ := dk_rd I.hok e
    refine wpAny_in_of (kV_is ry) hd dd.mapOf ?_
    rw [← (rel.val k).isSome_eq, ← l]
    exact h _ (I.tok _)
  · subst ey
    cases (show u = Value.ref b from ry)
    obtain ⟨z, hd, xs, rel, dd⟩ := dt_rd I.hok e
    refine wpAny_in_heap (tupleKind_room_in1 hu) (key_of I.hok eb) hd dd ?_
    have q := (rel.val k).isSome_eq
    rw [Option.isSome_map] at q
    rw [← q, ← l]
    exact h _ (I.tok _)
theorem d_notIn {Q : Value → Shared → Prop} (hu : A.units + 1 < cLine) (I : Inv X pins σ H s) (g : DGet H a y o) (ry : RelV y u) (h : ∀ s', Inv X pins σ H s' → Q (.bool (!o.isSome)) s') :
    wpAny (model X.prog X.w) A (compareOp .NotIn u (.ref a)) Q E s := by
  rcases g with ⟨kvs, k, e, ey, l⟩ | ⟨kvs, k, b, e, ey, eb, l⟩
  · subst ey
    obtain ⟨z, hd, vs, rel, dd⟩ := dk_rd I.hok e
    refine wpAny_notIn_of (kV_is ry) hd dd.mapOf ?_
    rw [← (rel.val k).isSome_eq, ← l]
    exact h _ (I.tok _)
  · subst ey
    cases (show u = Value.ref b from ry)
    obtain ⟨z, hd, xs, rel, dd⟩ := dt_rd I.hok e
    refine wpAny_notIn_heap (tupleKind_room_in1 hu) (key_of I.hok eb) hd dd ?_
    have q := (rel.val k).isSome_eq
    rw [Option.isSome_map] at q
    rw [← q, ← l]
    exact h _ (I.tok _)
theorem d_write {h' : Heap} {t' : Nat} {ob : HO} (I : Inv X pins σ H s) (mu : Mut (H a)) (hs : Heap.SameBut a s.heap h') (he : ∃ q, h'.get? a = some q) (new : ObjOk X.prog X.w (upd H a ob) h' a ob) :
    Inv X pins σ (upd H a ob) { s with heap := h', toks := t' } :=
  I.write (x := a) (e := a) mu (.inl rfl) (fun b q hb z => (hs.2 b hb).trans z) he new
theorem dk_new {P : Program} {w : World} {H' : Hp} {h' : Heap} {kvs : List (Key × V)} {vs : List (Key × Value)} (z : kvs.length ≤ sizeLine) (hd : (a == sysModules) = false) (rel : KV kvs vs) (dd : h'.DictOf (mixKind P w) a vs) :
    ObjOk P w H' h' a (.dK kvs) := ⟨z, hd, vs, rel, dd⟩
theorem d_setItem {H' : Hp} {Q : Unit → Shared → Prop} (hu : A.units + 1 < cLine) (I : Inv X pins σ H s) (g : DPut H a y v H') (ry : RelV y u) (rv : RelV v r) (h : ∀ s', Inv X pins σ H' s' → Q () s') :
    wpAny (model X.prog X.w) A (setItem (.ref a) u r) Q E s := by
  rcases g with ⟨kvs, k, e, ey, l, eH⟩ | ⟨kvs, k, b, e, ey, eb, l, eH⟩
  · subst ey eH
    obtain ⟨z, hd, vs, rel, dd⟩ := dk_of I.hok e
    have hz : vs.length ≤ sizeLine := by rw [← rel.length]; exact z
    have hl : (putK kvs k v).length ≤ sizeLine := by have := length_putK kvs k v; omega
    refine wpAny_setItem_pairs (hsz := hz) (kV_is ry) dd fun h' dd' hs => h _ ?_
    have he : ∃ q, h'.get? a = some q := let ⟨q, _, _, hq, _⟩ := dd'; ⟨q, hq⟩
    exact d_write I (by rw [e]; exact True.intro) hs he (dk_new hl hd (rel.put k rv) dd')
  · subst ey eH
    cases (show u = Value.ref b from ry)
    obtain ⟨z, hd, xs, rel, dd⟩ := dt_of I.hok e
    have hz : xs.length ≤ sizeLine := by rw [← Paired.length rel]; exact z
    have hl : (putK kvs k v).length ≤ sizeLine := by have := length_putK kvs k v; omega
    refine wpAny_setItem_heap (hsz := hz) (tupleKind_room_in1 hu) (key_of I.hok eb) dd fun h' dd' hs => h _ ?_
    obtain ⟨q, es, ep, hq, h2, h3, h4, _, h5⟩ := dd'
    refine d_write I (by rw [e]; exact True.intro) hs ⟨q, hq⟩ ⟨hl, hd, _, (rel.put k eb rv).keeps fun c ys ec => ?_, q, es, ep, hq, h2, h3, h4, h5⟩
    rw [upd_ne (ne_of ec e (fun z => nomatch z))]
    exact ec
end
section
variable {X : Cx} {pins : List (Addr × Obj)} {σ : St} {H : Hp} {s : Shared} {a : Addr} {kvs : List (Key × V)} {k : Key} {u : Value} {A : Around} {E : Value → Shared → Prop}
end
theorem dict_typeIs {X : Cx} {pins : List (Addr × Obj)} {σ : St} {H : Hp} {s : Shared} {a : Addr} {y : V} {o : Option V} (I : Inv X pins σ H s) (g : DGet H a y o) : s.TypeIs (.ref a) "dict" := by
  rcases g with ⟨kvs, k, e, _, _⟩ | ⟨kvs, k, b, e, _, _, _⟩
  · obtain ⟨_, _, vs, _, dd⟩ := dk_rd I.hok e
    exact dd.typeIs
  · obtain ⟨_, _, xs, _, dd⟩ := dt_rd I.hok e
    exact dd.typeIs
section
variable {X : Cx} {o i e value : Expr} {pos pos' tpos : Pos} {td ty tv : TE}
end
theorem dt_empty {P : Program} {w : World} {H : Hp} (h : Heap) (hb : sysModules < h.objs.size) : ObjOk P w H (h.push { cls := .type "dict", data := .dict #[] }) h.objs.size (.dT []) :=
  ⟨Nat.zero_le _, beq_eq_false_iff_ne.mpr (Ne.symm (Nat.ne_of_lt hb)), [], .nil, _, #[], 0, Heap.get?_push_size _ rfl, ⟨rfl, rfl, rfl⟩, rfl, rfl, List.nodup_nil⟩
noncomputable def tDNewT : TE := fun _ H Q => ∀ p, H p = none → Q (.ref p) (upd H p (.dT []))
section
variable {X : Cx} {pos : Pos}
theorem pe_dnewT : PE X (.Dict [] [] pos) tDNewT := fun pins s σ H Q I h =>
  wpAny_Dict_empty ⟨.ref s.heap.objs.size, _, I.laid (a := s.heap.objs.size) (o := .dT []) (t' := s.toks) (fun _ _ q => Heap.get?_push_of_some _ q) (Nat.le_refl _) (dt_empty s.heap I.big), rfl, h _ (I.hok.fresh (Nat.le_refl _))⟩
end
section
variable {X : Cx} {pins : List (Addr × Obj)} {σ : St} {H : Hp} {s : Shared} {a : Addr} {y d : V} {u r : Value} {o : Option V} {A : Around} {E : Value → Shared → Prop}
end
section
variable {X : Cx} {o e f : Expr} {apos cpos : Pos} {td ty tx : TE}
end
section
variable {X : Cx} {pins : List (Addr × Obj)} {σ : St} {H : Hp} {s : Shared} {a : Addr} {kvs : List (Key × V)} {A : Around} {E : Value → Shared → Prop}
end
section
variable {X : Cx} {pins : List (Addr × Obj)} {σ : St} {H : Hp} {s : Shared} {a : Addr} {y : V} {u : Value} {A : Around} {E : Value → Shared → Prop}
end
end L2
namespace Att
open PySem PySem.W PySem.Calls PyProof.Rows
theorem ints_of_wellAll {P : Params} {h : Heap} : ∀ (ns : List Int) (vs : List Value), WellAll P h vs (ns.map WData.int) → IntsAre vs ns := by
  intro ns
  induction ns with
  | nil =>
    intro vs w
    rw [List.map_nil] at w
    cases w
    exact .nil
  | cons n ns ih =>
    intro vs w
    rw [List.map_cons] at w
    cases w with
    | cons a b =>
      cases a
      exact .cons _ _ (ih _ b)

theorem script_of {l : OpenLaw} {n : Nat} (hn : l.most = some n) {P : Params} {h : Heap} {args : List WData} {vals : List Value}
    (hpre : l.row.toRowW.claim.pre args = true) (hwl : WellAll P h vals args) :
    ∃ a vs ns, vals = [Value.ref a] ∧ args = [WData.list (ns.map WData.int)] ∧ h.get? a = some { cls := .type "list", data := .seq vs.toArray } ∧ IntsAre vs ns ∧ ns.length ≤ n := by
  have hsh : WShape.hasAll [] args [.list .int] = true := (pre_splitW hpre).1
  have hc : l.pre.holds [] { args := args } = true := (pre_splitW hpre).2
  obtain ⟨d, r, rfl, h1, h2⟩ := hasAllW_cons hsh
  obtain rfl := hasAllW_nil h2
  obtain ⟨xs, rfl, h3⟩ := hasW_list h1
  obtain ⟨ns, rfl⟩ := items_int h3
  have hlen : ns.length ≤ n := by
    unfold OpenLaw.pre at hc
    have h4 : (WTm.not (.lt (.lit (.int (n : Int))) (.len (.arg 0)))).holds [] { args := [.list (ns.map .int)] } = true := by
      have h4 := (holds_andW hc).1
      rw [hn] at h4
      exact h4
    have h5 := condW_of h4 (w_not (w_lt w_lit (w_len_list (w_arg rfl))))
    rw [List.length_map] at h5
    refine Nat.le_of_not_lt fun q => ?_
    have q' : (n : Int) < ((ns.length : Nat) : Int) := by omega
    first
      | (rw [decide_eq_true q'] at h5; exact absurd h5 (by decide))
      | (simp at h5; omega)
  cases hwl with
  | cons w1 w2 =>
    cases w2
    cases w1 with
    | list ho hall => exact ⟨_, _, ns, rfl, rfl, ho, ints_of_wellAll ns _ hall, hlen⟩

theorem post_true (l : OpenLaw) (args : List WData) : l.row.toRowW.claim.post args (.bool true) args = true :=
  postW_of (r := l.row.toRowW) (X := (true == true))
    (show WShape.has [] (.bool true) .bool = true by first | rfl | decide | simp [WShape.has, WShape.arms, WShape.armsAll])
    (show (WTm.eq .res (.lit (.bool true))).value [] { args := args, res := some (.bool true), after := args } = some (.bool (true == true)) from w_eq_bool (w_res rfl) w_lit) rfl

theorem attach_call {l : OpenLaw} {n : Nat} {q : Program} {loose : List Str} {XP : (Str → Option Value) → Heap → Prop} {YP : World → Heap → Prop} {d : DefRec}
    (hn : l.most = some n) (hdf : d.params.defaults = [])
    (call : ∀ (w : World) (s₀ s₁ : Shared) (mg mb : Str → Option Value) (fa : Addr) (o : Obj) (pm cd doc : Value) (a : Addr) (vs : List Value) (ns : List Int),
      Ground q loose [] XP w s₀ mg mb s₁.heap → YP w s₁.heap →
      s₁.heap.get? fa = some o → o.data = .func (docDef d.name d.params d.body d.scope pm cd doc) → s₁.heap.CodeRec cd d.name → mg d.name = some (.ref fa) →
      s₁.heap.get? a = some { cls := .type "list", data := .seq vs.toArray } → IntsAre vs ns → ns.length ≤ n → s₁.gens = #[] →
      codeAny (model l.prog w) callerA (.call (.ref fa) ⟨[.ref a], []⟩) (fun r s' => r = .ok (.ret (.bool true)) ∧ OldK s₁.heap s'.heap ∧ s'.os = s₁.os ∧ AllBare s'.gens) s₁) :
    WalkO q loose XP YP l.row.toRowW d [] (fun f vs => PySem.call f vs) := by
  intro w s₀ s₁ mg mb G Y fa o pm cd doc dV kV ho hd hcd hD hmg hg args vals as hpre hlay hrd hwl hlo
  obtain rfl : dV = .none := Dflts.none hD hdf
  obtain rfl : kV = .none := Dflts.noKw hD
  obtain ⟨a, vs, ns, rfl, rfl, hobj, hints, hlen⟩ := script_of hn hpre hwl
  refine enter_call (codeAny_mono (call w s₀ s₁ mg mb fa o pm cd doc a vs ns G Y ho (fd_plain hd) hcd hmg hobj hints hlen hg) fun r s' hq => ?_)
  obtain ⟨rfl, h2, h3, h4⟩ := hq
  exact ⟨.inl ⟨.bool true, .bool true, [], rfl, fun _ => rfl, .bool true, post_true l _, fun _ => ⟨List.Pairwise.nil, fun _ hm => (nomatch hm)⟩⟩, h2, h3, h4⟩

section
variable {prog : Program} {w : World} {A : Around} {E : Value → Shared → Prop} {s : Shared} {K : Frag}
end
end Att
namespace L2
open PySem PySem.Spec PyProof.Rows
theorem vals_ints : ∀ {vs : List Value} {ns : List Int}, IntsAre vs ns → Vals (ns.map V.int) vs
  | _, _, .nil => .nil
  | _, _, .cons n t h => .cons ⟨t, rfl⟩ (vals_ints h)

noncomputable def Only (H : Hp) : Prop := ∀ b, H b = none ∨ ∃ o xs, H b = some (.frz o (.lst xs))

theorem law_call {P : Program} {w : World} {K : PySem.W.Frag} {mg mb : Str → Option Value} {CX : CXT} {k : Nat} {fa a : Addr} {fd : FuncData} {x : Str} {sp : Sp} {s₁ : Shared} {vs : List Value} {ns : List Int}
    (KX : K.In s₁.heap) (hns : s₁.heap.Ns mainGlobals mg) (hb : s₁.heap.Ns builtinsNs mb) (hbb : ∀ x : Str, x ≠ "__name__" → mb x = bootBuiltins x) (hlim : s₁.heap.NoLimit) (hg : s₁.gens = #[])
    (ha : s₁.heap.get? a = some { cls := .type "list", data := .seq vs.toArray }) (hi : IntsAre vs ns) (hl : ns.length ≤ sizeLine) (hr : Room k callerA)
    (F : ∀ base : Heap, K.In base → base.Ns mainGlobals mg → FnOk P w K mg base CX k fa fd [x] sp) (hbind : ∀ (s : Shared) (u : Value), BindsTo s fd ⟨[u], []⟩ [(x, u)])
    (hsp : ∀ H : Hp, Only H → SqL K H a (ns.map V.int) → sp [.ref a] H (fun v _ => v = .bl true) fun _ _ _ => False)
    (hCX : ∀ H e s', CX [] H s₁ (fun _ _ _ => False) e s' → False) :
    codeAny (model P w) callerA (.call (.ref fa) ⟨[.ref a], []⟩) (fun r s' => r = .ok (.ret (.bool true)) ∧ OldK s₁.heap s'.heap ∧ s'.os = s₁.os ∧ AllBare s'.gens) s₁ := by
  have rv := vals_ints hi
  have lenV := hi.length
  -- from an abstract heap in which nothing but the script may be tracked
  have core : ∀ H : Hp, Only H → SqL K H a (ns.map V.int) → HOk P w H s₁.heap → (∀ b, H b ≠ none → b = a) → (H a ≠ none → K.lookup a = none) →
      codeAny (model P w) callerA (.call (.ref fa) ⟨[.ref a], []⟩) (fun r s' => r = .ok (.ret (.bool true)) ∧ OldK s₁.heap s'.heap ∧ s'.os = s₁.os ∧ AllBare s'.gens) s₁ := by
    intro H hO hS hok hA hK
    have base_of : ∀ {b : Addr} {o : Obj}, s₁.heap.get? b = some o → H b = none → (hidT s₁.heap H).get? b = some o := fun e n => hidT_get e n
    have noA : ∀ {b : Addr} {o : Obj} {es : Array DictEntry} {ep : Nat}, s₁.heap.get? b = some o → o.data = .dict es ep → H b = none := fun {b o es ep} e d => by
      cases q : H b with
      | none => rfl
      | some u =>
        have e' : b = a := hA b (by rw [q]; simp)
        subst e'
        rw [ha] at e; cases e
        have d' : Data.seq vs.toArray _ = Data.dict es ep := d
        cases d'
    have nsK : ∀ {b : Addr} {m : Str → Option Value}, s₁.heap.Ns b m → (hidT s₁.heap H).Ns b m := fun {b m} ⟨o, es, ep, e, d, r⟩ => ⟨o, es, ep, base_of e (noA e d), d, r⟩
    have hKb : K.In (hidT s₁.heap H) := fun b o e => base_of (KX b o e) (by
      cases q : H b with
      | none => rfl
      | some u =>
        have e' : b = a := hA b (by rw [q]; simp)
        subst e'
        rw [hK (by rw [q]; simp)] at e; cases e)
    have hM : Mod K mg (hidT s₁.heap H) := ⟨hKb, nsK hns, ⟨mb, nsK hb, hbb⟩, let ⟨mc, h1, h2⟩ := hlim; ⟨mc, nsK h1, h2⟩⟩
    have e0 : Env0 P w K mg (hidT s₁.heap H) callerA [] s₁ H := ⟨rfl, hM, fun b o e => of_hidT e, Nat.le_of_eq (hidT_size _ _), trivial, fun b hb => absurd (show b ∈ ([] : List Addr) from hb) (by simp), hok, .of_eq hg⟩
    refine codeAny_mono ((F _ hKb (nsK hns)).run callerA [] s₁ H ⟨[.ref a], []⟩ [.ref a] [.ref a] _ _ hr e0 (hbind s₁ (.ref a)) (.cons rfl .nil) (hsp H hO hS)) fun r s' h => ?_
    cases r with
    | error e => exact (hCX H e s' h).elim
    | ok fl =>
      cases fl with
      | next => exact False.elim h
      | brk => exact False.elim h
      | cont => exact False.elim h
      | ret u =>
        obtain ⟨v, H', os, bare, un, hok', r', q⟩ := h
        have q' : v = .bl true := q
        subst q'
        obtain rfl : u = Value.bool true := r'
        refine ⟨rfl, OldK.of_keep fun b o e => ?_, os, bare⟩
        cases q : H b with
        | none => exact un.keep b o e q (by intro z; exact absurd (show b ∈ ([] : List Addr) from z) (by simp)) (by simp)
        | some u =>
          rcases hO b with z | ⟨ob, xs, z⟩
          · rw [q] at z; cases z
          · have z2 := un.frzs b ob _ z
            obtain ⟨e1, _⟩ := hok b _ z
            obtain ⟨e2, _⟩ := hok' b _ z2
            rw [e] at e1; cases e1
            exact e2
  cases hk : K.lookup a with
  | some o =>
    -- the script is one of the module's own objects
    have e := KX a o hk
    rw [ha] at e
    cases e
    refine core (fun _ => none) (fun _ => .inl rfl) (.inr ⟨_, vs.toArray, _, hk, rfl, rfl, rfl, by rw [List.size_toArray, lenV]; exact hl, by simpa using rv⟩) (fun b u z => by have z' : (none : Option HO) = some u := z; cases z') (fun b z => absurd rfl z) fun z => absurd rfl z
  | none =>
    refine core (fun b => if b = a then some (.frz { cls := .type "list", data := .seq vs.toArray } (.lst (ns.map V.int))) else none) (fun b => ?_) (.inl (.inr ⟨{ cls := .type "list", data := .seq vs.toArray }, if_pos rfl⟩)) (fun b u z => ?_) (fun b z => ?_) fun _ => hk
    · by_cases hb : b = a
      · exact .inr ⟨_, _, if_pos hb⟩
      · exact .inl (if_neg hb)
    · by_cases hb : b = a
      · have z' := (if_pos hb).symm.trans z
        cases z'
        subst hb
        exact ⟨ha, by rw [List.length_map]; exact hl, vs, _, rv, ha⟩
      · have z' := (if_neg hb).symm.trans z
        cases z'
    · by_cases hb : b = a
      · exact hb
      · exact absurd (if_neg hb) z
end L2
namespace L2
open PySem PySem.Spec PyProof.Rows
theorem walk_of {l : PySem.W.OpenLaw} {n k : Nat} {q : Program} {loose : List Str} {XP : (Str → Option Value) → Heap → Prop} {YP : World → Heap → Prop} {d : DefRec} {K : Params → PySem.W.Frag} {CX : World → CXT} {sp : World → Sp} {x : Str}
    (hn : l.most = some n) (hn2 : n ≤ sizeLine) (hdf : d.params.defaults = []) (hr : Room k callerA)
    (hY : ∀ (w : World) (h : Heap), YP w h → (K w.params).In h)
    (F : ∀ (w : World) (mg : Str → Option Value) (fa : Addr) (h : Heap), (K w.params).In h → h.Ns mainGlobals mg → mg d.name = some (.ref fa) →
      ∃ fd : FuncData, (∀ (s : Shared) (u : Value), BindsTo s fd ⟨[u], []⟩ [(x, u)]) ∧
        ∀ base : Heap, (K w.params).In base → base.Ns mainGlobals mg → FnOk l.prog w (K w.params) mg base (CX w) k fa fd [x] (sp w))
    (hsp : ∀ (w : World) (H : Hp) (a : Addr) (ns : List Int), ns.length ≤ n → Only H → SqL (K w.params) H a (ns.map V.int) → sp w [.ref a] H (fun v _ => v = .bl true) fun _ _ _ => False)
    (hCX : ∀ (w : World) (H : Hp) (s : Shared) (e : Value) (s' : Shared), CX w [] H s (fun _ _ _ => False) e s' → False) :
    PySem.W.WalkO q loose XP YP l.row.toRowW d [] (fun f vs => PySem.call f vs) := by
  refine Att.attach_call hn hdf fun w s₀ s₁ mg mb fa o pm cd doc a vs ns G Y ho hd hcd hmg hobj hints hlen hg => ?_
  have KX := hY w _ Y
  obtain ⟨fd, hb, hF⟩ := F w mg fa _ KX G.T.g hmg
  exact law_call KX G.T.g G.T.b G.T.builtins G.T.nolimit hg hobj hints (Nat.le_trans hlen hn2) hr hF hb (fun H hO hS => hsp w H a ns hlen hO hS) fun H e s' => hCX w H s₁ e s'
theorem walk_ofK {l : PySem.W.OpenLaw} {n k : Nat} {q : Program} {loose : List Str} {XP : (Str → Option Value) → Heap → Prop} {YP : World → Heap → Prop} {d : DefRec} {K : Params → PySem.W.Frag} {CX : CXT} {sp : PySem.W.Frag → Sp} {x : Str}
    (hn : l.most = some n) (hn2 : n ≤ sizeLine) (hdf : d.params.defaults = []) (hr : Room k callerA)
    (hY : ∀ (w : World) (h : Heap), YP w h → (K w.params).In h)
    (F : ∀ (w : World) (mg : Str → Option Value) (fa : Addr) (h : Heap), (K w.params).In h → h.Ns mainGlobals mg → mg d.name = some (.ref fa) →
      ∃ fd : FuncData, (∀ (s : Shared) (u : Value), BindsTo s fd ⟨[u], []⟩ [(x, u)]) ∧
        ∀ base : Heap, (K w.params).In base → base.Ns mainGlobals mg → FnOk l.prog w (K w.params) mg base CX k fa fd [x] (sp (K w.params)))
    (hsp : ∀ (K : PySem.W.Frag) (H : Hp) (a : Addr) (ns : List Int), ns.length ≤ n → Only H → SqL K H a (ns.map V.int) → sp K [.ref a] H (fun v _ => v = .bl true) fun _ _ _ => False)
    (hCX : ∀ (H : Hp) (s : Shared) (e : Value) (s' : Shared), CX [] H s (fun _ _ _ => False) e s' → False) :
    PySem.W.WalkO q loose XP YP l.row.toRowW d [] (fun f vs => PySem.call f vs) :=
  walk_of (K := K) (CX := fun _ => CX) (sp := fun w => sp (K w.params)) hn hn2 hdf hr hY F (fun w H a ns h1 h2 h3 => hsp (K w.params) H a ns h1 h2 h3) fun _ H s e s' => hCX H s e s'
end L2
namespace L2
open PySem PySem.Spec PyProof.Rows
noncomputable def defArgs (s : Stmt) : Arguments := match s with
  | .FunctionDef _ a _ _ _ _ _ _ _ _ => a
  | _ => { posonlyargs := [], args := [], vararg := none, kwonlyargs := [], kw_defaults := [], kwarg := none, defaults := [] }
noncomputable def defBody (s : Stmt) : List Stmt := match s with
  | .FunctionDef _ _ b _ _ _ _ _ _ _ => b
  | _ => []
noncomputable def defScope (s : Stmt) : Scope := match s with
  | .FunctionDef _ _ _ _ _ _ sc _ _ _ => sc
  | _ => { kind := .function, names := [], isGenerator := false, isCoroutine := false }

noncomputable abbrev CX0 : CXT := fun _ _ _ _ _ _ => False
noncomputable abbrev E0 : XK := fun _ _ _ => False
theorem pass0 {X : Cx} : Passes CX0 X E0 := fun _ _ _ _ _ _ _ h => h.elim

structure Fun (K : PySem.W.Frag) (x qual : Str) (st : Stmt) (f : Addr) (fd : FuncData) : Prop where
  ex : ∃ (oc : Value) (od : Option Addr) (kV doc pm : Value) (an : Option Addr) (cdv ct : Value) (osl : Array (Option Value)),
    fd = PySem.W.fnOf x qual (defArgs st) (defBody st) (defScope st) .none kV doc pm an cdv ct ∧ K.lookup f = some ⟨oc, od, .func fd, osl⟩ ∧ PySem.W.codeIn K cdv qual = true
  kp : PySem.W.keepIn K (.ref f) = true
section
variable {P : Program} {w : World} {K : PySem.W.Frag} {mg : Str → Option Value} {base : Heap}
theorem Fun.ok {x qual : Str} {st : Stmt} {f : Addr} {fd : FuncData} {N ps : List Str} {k : Nat} {sp : Sp} (F : Fun K x qual st f fd) (S : FnScope N ps (defScope st)) (len : ∀ vs H Q E, sp vs H Q E → vs.length = ps.length)
    (hbody : ∀ (cdv : Value) (A : Around) (outer : List Env) (s : Shared) (H : Hp) (vs : List V) (Q : VK) (E : XK), Room k (A.deeper (envOfC qual (defScope st) s.heap.objs.size f cdv)) → sp vs H Q E →
      ∃ t, PSs (cxOf CX0 P w K mg base N qual (defScope st) f cdv A outer s H E).nox (defBody st) t ∧ t { nx := fun _ H' => Q .non H', rt := Q } (start N vs) H) : FnOk P w K mg base CX0 (k + 1) f fd ps sp := by
  obtain ⟨oc, od, kV, doc, pm, an, cdv, ct, osl, rfl, lk, hcd⟩ := F.ex
  refine fn_of lk hcd S len fun A outer s H vs Q E hr hsp => ?_
  obtain ⟨t, h, q⟩ := hbody cdv A outer s H vs Q E hr hsp
  exact ⟨t, h.nox, q⟩
theorem Fun.binds {x qual : Str} {st : Stmt} {f : Addr} {fd : FuncData} {ps : List Str} (F : Fun K x qual st f fd)
    (h : ∀ (kV doc pm : Value) (an : Option Addr) (cdv ct : Value) (us : List Value), us.length = ps.length → bindArgs (PySem.W.fnOf x qual (defArgs st) (defBody st) (defScope st) .none kV doc pm an cdv ct) ⟨us, []⟩ = pure (ps.zip us)) : Binds K fd ps [] := by
  obtain ⟨oc, od, kV, doc, pm, an, cdv, ct, osl, rfl, lk, hcd⟩ := F.ex
  exact .all (h kV doc pm an cdv ct)
theorem fun_mk {x qual : Str} {st : Stmt} {f : Addr} {oc : Value} {od an : Option Addr} {osl : Array (Option Value)} {kV doc pm cdv ct : Value} (l : K.lookup f = some ⟨oc, od, .func (PySem.W.fnOf x qual (defArgs st) (defBody st) (defScope st) .none kV doc pm an cdv ct), osl⟩)
    (c : PySem.W.codeIn K cdv qual = true) (k : PySem.W.keepIn K (.ref f) = true) : Fun K x qual st f (PySem.W.fnOf x qual (defArgs st) (defBody st) (defScope st) .none kV doc pm an cdv ct) := ⟨⟨oc, od, kV, doc, pm, an, cdv, ct, osl, rfl, l, c⟩, k⟩
end
section
variable {X : Cx}
end
noncomputable def Same (H H' : Hp) : Prop := ∀ b o, H b = some o → H' b = some o
theorem Same.refl (H : Hp) : Same H H := fun _ _ h => h
theorem Same.trans {H H1 H2 : Hp} (a : Same H H1) (b : Same H1 H2) : Same H H2 := fun c o h => b c o (a c o h)
theorem Same.free {H H' : Hp} (e : Same H H') {l : Addr} (h : H' l = Option.none) : H l = Option.none := by
  cases q : H l with
  | none => rfl
  | some o =>
    rw [e l o q] at h
    cases h
theorem Same.seq {K : PySem.W.Frag} {H H' : Hp} {a : Addr} {xs : List V} (e : Same H H') (h : SqL K H a xs) : SqL K H' a xs := by
  rcases h with (h | ⟨o, h⟩) | h
  · exact .inl (.inl (e _ _ h))
  · exact .inl (.inr ⟨o, e _ _ h⟩)
  · exact .inr h

section
variable {κ : Type} [DecidableEq κ]
end
end L2
set_option Elab.async false
set_option linter.all false
set_option maxRecDepth 100000
namespace L2
open PySem PySem.Spec PyProof.Rows
section
variable {X : Cx}
theorem PE.mono {e : Expr} {t t' : TE} (h : PE X e t) (i : ∀ σ H Q, t' σ H Q → t σ H Q) : PE X e t' := fun pins s σ H Q I q => h pins s σ H Q I (i σ H Q q)
theorem PT.mono {e : Expr} {t t' : TT} (h : PT X e t) (i : ∀ σ H Q, t' σ H Q → t σ H Q) : PT X e t' := fun pins s σ H Q I q => h pins s σ H Q I (i σ H Q q)
theorem PW.mono {e : Expr} {t t' : TT} (h : PW X e t) (i : ∀ σ H Q, t' σ H Q → t σ H Q) : PW X e t' := fun wh pins s σ H Q I q => h wh pins s σ H Q I (i σ H Q q)
theorem PA.mono {e : List Expr} {t t' : TA} (h : PA X e t) (i : ∀ σ H Q, t' σ H Q → t σ H Q) : PA X e t' := fun pos pins s σ H Q I q => h pos pins s σ H Q I (i σ H Q q)
theorem PS.mono {e : Stmt} {t t' : TS} (h : PS X e t) (i : ∀ D σ H, t' D σ H → t D σ H) : PS X e t' := fun pins s σ H D I q => h pins s σ H D I (i D σ H q)
theorem PSs.mono {e : List Stmt} {t t' : TS} (h : PSs X e t) (i : ∀ D σ H, t' D σ H → t D σ H) : PSs X e t' := fun pins s σ H D I q => h pins s σ H D I (i D σ H q)
theorem PG.mono {e : Expr} {t t' : TG} (h : PG X e t) (i : ∀ v σ H Q, t' v σ H Q → t v σ H Q) : PG X e t' := fun pins s σ H v u Q I r q => h pins s σ H v u Q I r (i v σ H Q q)
theorem PGs.mono {e : List Expr} {t t' : TGs} (h : PGs X e t) (i : ∀ v σ H Q, t' v σ H Q → t v σ H Q) : PGs X e t' := fun pins s σ H v u Q I r q => h pins s σ H v u Q I r (i v σ H Q q)
theorem PI.mono {g e : Expr} {t t' : TI} (h : PI X g e t) (i : ∀ σ H Q, t' σ H Q → t σ H Q) : PI X g e t' := fun pins s σ H Q I q => h pins s σ H Q I (i σ H Q q)
end
theorem sizeLine_ge : 1000000 ≤ sizeLine := by decide
end L2
set_option linter.all false
set_option maxRecDepth 100000
namespace L3
open PySem L2
inductive D where
  | non | bl (b : Bool) | int (i : Int) | str (x : Str)
  | tup (xs : List D) | lst (xs : List D)
  | dK (ks : List Key) (xs : List D) | dT (ks : List (List Key)) (xs : List D)
  | obj (c : Str) (ns : List Str) (xs : List D)
  | scr (xs : List D)
  | ty (n : String)

mutual
/-- the value v, in the heap F, is the tree d -/
noncomputable def Rep (K : PySem.W.Frag) (F : Hp) : D → V → Prop
  | .non, v => v = .non
  | .bl b, v => v = .bl b
  | .int i, v => v = .int i
  | .str x, v => v = .str x
  | .tup xs, v => ∃ a vs, v = .ref a ∧ F a = some (.tup vs) ∧ Reps K F xs vs
  | .lst xs, v => ∃ a vs, v = .ref a ∧ F a = some (.lst vs) ∧ Reps K F xs vs
  | .dK ks xs, v => ∃ a vs, v = .ref a ∧ F a = some (.dK (ks.zip vs)) ∧ ks.length = vs.length ∧ Reps K F xs vs
  | .dT ks xs, v => ∃ a vs, v = .ref a ∧ F a = some (.dT (ks.zip vs)) ∧ ks.length = vs.length ∧ Reps K F xs vs
  | .obj c ns xs, v => ∃ a C dx vs, v = .ref a ∧ PySem.W.nsIn K PySem.mainGlobals c = some (some (.ref C)) ∧ F a = some (.ins C dx (ns.zip vs)) ∧ ns.length = vs.length ∧ Reps K F xs vs
  | .scr xs, v => ∃ a vs, v = .ref a ∧ SqL K F a vs ∧ Reps K F xs vs
  | .ty n, v => v = .ty n
noncomputable def Reps (K : PySem.W.Frag) (F : Hp) : List D → List V → Prop
  | [], vs => vs = []
  | d :: ds, vs => ∃ v r, vs = v :: r ∧ Rep K F d v ∧ Reps K F ds r
end
section
variable {K : PySem.W.Frag} {F F' H H' H0 F0 : Hp}
mutual
theorem Rep.mono (e : Same F F') : ∀ {d : D} {v : V}, Rep K F d v → Rep K F' d v
  | .non, _, h => h
  | .bl _, _, h => h
  | .int _, _, h => h
  | .str _, _, h => h
  | .ty _, _, h => by rw [Rep] at h ⊢; exact h
  | .tup _, _, h => by
    rw [Rep] at h ⊢
    obtain ⟨a, vs, h1, h2, h3⟩ := h
    exact ⟨a, vs, h1, e _ _ h2, Reps.mono e h3⟩
  | .lst _, _, h => by
    rw [Rep] at h ⊢
    obtain ⟨a, vs, h1, h2, h3⟩ := h
    exact ⟨a, vs, h1, e _ _ h2, Reps.mono e h3⟩
  | .dK _ _, _, h => by
    rw [Rep] at h ⊢
    obtain ⟨a, vs, h1, h2, h3, h4⟩ := h
    exact ⟨a, vs, h1, e _ _ h2, h3, Reps.mono e h4⟩
  | .dT _ _, _, h => by
    rw [Rep] at h ⊢
    obtain ⟨a, vs, h1, h2, h3, h4⟩ := h
    exact ⟨a, vs, h1, e _ _ h2, h3, Reps.mono e h4⟩
  | .obj _ _ _, _, h => by
    rw [Rep] at h ⊢
    obtain ⟨a, C, dx, vs, h1, hc, h2, h3, h4⟩ := h
    exact ⟨a, C, dx, vs, h1, hc, e _ _ h2, h3, Reps.mono e h4⟩
  | .scr _, _, h => by
    rw [Rep] at h ⊢
    obtain ⟨a, vs, h1, h2, h3⟩ := h
    exact ⟨a, vs, h1, Same.seq e h2, Reps.mono e h3⟩
theorem Reps.mono (e : Same F F') : ∀ {ds : List D} {vs : List V}, Reps K F ds vs → Reps K F' ds vs
  | [], _, h => by rw [Reps] at h ⊢; exact h
  | _ :: _, _, h => by
    rw [Reps] at h ⊢
    obtain ⟨v, r, h1, h2, h3⟩ := h
    exact ⟨v, r, h1, Rep.mono e h2, Reps.mono e h3⟩
end
theorem Reps.nil : Reps K F [] [] := by rw [Reps]
theorem Reps.cons {d : D} {ds : List D} {v : V} {vs : List V} (h : Rep K F d v) (t : Reps K F ds vs) : Reps K F (d :: ds) (v :: vs) := by rw [Reps]; exact ⟨v, vs, rfl, h, t⟩
theorem Reps.uncons {d : D} {ds : List D} {vs : List V} (h : Reps K F (d :: ds) vs) : ∃ v r, vs = v :: r ∧ Rep K F d v ∧ Reps K F ds r := by rw [Reps] at h; exact h
theorem Reps.unnil {vs : List V} (h : Reps K F [] vs) : vs = [] := by rw [Reps] at h; exact h
theorem Reps.length : ∀ {ds : List D} {vs : List V}, Reps K F ds vs → ds.length = vs.length
  | [], _, h => by rw [h.unnil]; rfl
  | _ :: _, _, h => by obtain ⟨v, r, rfl, _, t⟩ := h.uncons; simp [Reps.length t]
theorem Reps.get : ∀ {ds : List D} {vs : List V} {i : Nat} {d : D}, Reps K F ds vs → ds[i]? = some d → ∃ v, vs[i]? = some v ∧ Rep K F d v
  | [], _, _, _, _, e => by simp at e
  | _ :: _, _, 0, _, h, e => by
    obtain ⟨v, r, rfl, h1, _⟩ := h.uncons
    simp at e; subst e; exact ⟨v, rfl, h1⟩
  | _ :: _, _, i + 1, _, h, e => by
    obtain ⟨v, r, rfl, _, t⟩ := h.uncons
    obtain ⟨u, e1, h1⟩ := Reps.get (i := i) t (by simpa using e)
    exact ⟨u, by simpa using e1, h1⟩
theorem Reps.app : ∀ {ds es : List D} {vs us : List V}, Reps K F ds vs → Reps K F es us → Reps K F (ds ++ es) (vs ++ us)
  | [], _, _, _, h, g => by rw [h.unnil]; exact g
  | _ :: _, _, _, _, h, g => by obtain ⟨v, r, rfl, h1, t⟩ := h.uncons; exact .cons h1 (Reps.app t g)
theorem Reps.set {d : D} {v : V} (r : Rep K F d v) : ∀ {ds : List D} {vs : List V} (i : Nat), Reps K F ds vs → Reps K F (ds.set i d) (vs.set i v)
  | [], _, _, h => by rw [h.unnil]; exact .nil
  | _ :: _, _, 0, h => by obtain ⟨u, t, rfl, _, h2⟩ := h.uncons; exact .cons r h2
  | _ :: _, _, i + 1, h => by obtain ⟨u, t, rfl, h1, h2⟩ := h.uncons; exact .cons h1 (Reps.set r i h2)
theorem Reps.drop : ∀ {ds : List D} {vs : List V} (n : Nat), Reps K F ds vs → Reps K F (ds.drop n) (vs.drop n)
  | _, _, 0, h => h
  | [], _, _ + 1, h => by rw [h.unnil]; exact .nil
  | _ :: _, _, n + 1, h => by obtain ⟨u, t, rfl, _, h2⟩ := h.uncons; exact Reps.drop n h2
theorem Reps.take : ∀ {ds : List D} {vs : List V} (n : Nat), Reps K F ds vs → Reps K F (ds.take n) (vs.take n)
  | _, _, 0, _ => .nil
  | [], _, _ + 1, h => by rw [h.unnil]; exact .nil
  | _ :: _, _, n + 1, h => by obtain ⟨u, t, rfl, h1, h2⟩ := h.uncons; exact .cons h1 (Reps.take n h2)
theorem Reps.rep {ds : List D} {vs : List V} (h : Reps K F ds vs) : ∀ k : Nat, Reps K F (List.replicate k ds).flatten (List.replicate k vs).flatten
  | 0 => .nil
  | k + 1 => by rw [List.replicate_succ, List.replicate_succ, List.flatten_cons, List.flatten_cons]; exact .app h (Reps.rep h k)

noncomputable def Cell (K : PySem.W.Frag) (F H : Hp) (a : Addr) : D → Prop
  | .lst xs => ∃ vs, H a = some (.lst vs) ∧ Reps K F xs vs
  | .dK ks xs => ∃ vs, H a = some (.dK (ks.zip vs)) ∧ ks.length = vs.length ∧ Reps K F xs vs
  | .dT ks xs => ∃ vs, H a = some (.dT (ks.zip vs)) ∧ ks.length = vs.length ∧ Reps K F xs vs
  | .obj c ns xs => ∃ C dx vs, PySem.W.nsIn K PySem.mainGlobals c = some (some (.ref C)) ∧ H a = some (.ins C dx (ns.zip vs)) ∧ ns.length = vs.length ∧ Reps K F xs vs
  | _ => False
theorem Cell.some {a : Addr} {d : D} (h : Cell K F H a d) : ∃ o, H a = some o := by
  cases d <;> first | exact h.elim | (obtain ⟨vs, h, _⟩ := h; exact ⟨_, h⟩) | (obtain ⟨C, dx, vs, _, h, _⟩ := h; exact ⟨_, h⟩)
theorem Cell.mono {a : Addr} {d : D} (h : Cell K F H a d) (e : Same F F') (k : ∀ o, H a = .some o → H' a = .some o) : Cell K F' H' a d := by
  cases d with
  | lst xs => obtain ⟨vs, h1, h2⟩ := h; exact ⟨vs, k _ h1, h2.mono e⟩
  | dK ks xs => obtain ⟨vs, h1, h2, h3⟩ := h; exact ⟨vs, k _ h1, h2, h3.mono e⟩
  | dT ks xs => obtain ⟨vs, h1, h2, h3⟩ := h; exact ⟨vs, k _ h1, h2, h3.mono e⟩
  | obj c ns xs => obtain ⟨C, dx, vs, hc, h1, h2, h3⟩ := h; exact ⟨C, dx, vs, hc, k _ h1, h2, h3.mono e⟩
  | _ => exact h.elim
theorem Cell.rep {a : Addr} {d : D} (h : Cell K F H a d) (e : Same F F') (k : ∀ o, H a = .some o → F' a = .some o) : Rep K F' d (.ref a) := by
  cases d with
  | lst xs => obtain ⟨vs, h1, h2⟩ := h; rw [Rep]; exact ⟨a, vs, rfl, k _ h1, h2.mono e⟩
  | dK ks xs => obtain ⟨vs, h1, h2, h3⟩ := h; rw [Rep]; exact ⟨a, vs, rfl, k _ h1, h2, h3.mono e⟩
  | dT ks xs => obtain ⟨vs, h1, h2, h3⟩ := h; rw [Rep]; exact ⟨a, vs, rfl, k _ h1, h2, h3.mono e⟩
  | obj c ns xs => obtain ⟨C, dx, vs, hc, h1, h2, h3⟩ := h; rw [Rep]; exact ⟨a, C, dx, vs, rfl, hc, k _ h1, h2, h3.mono e⟩
  | _ => exact h.elim

noncomputable def RdV (K : PySem.W.Frag) (F H : Hp) (d : D) (v : V) : Prop := Rep K F d v ∨ ∃ a, v = .ref a ∧ Cell K F H a d

structure Step (F H F' H' : Hp) : Prop where
  up : Same F F'
  sub : Same F' H'
  keep : Same H H'
  new : ∀ a o, F' a = some o → F a = some o ∨ H a = none
theorem Step.refl (h : Same F H) : Step F H F H := ⟨.refl _, h, .refl _, fun _ _ e => .inl e⟩
theorem Step.trans {F1 H1 F2 H2 : Hp} (a : Step F H F1 H1) (b : Step F1 H1 F2 H2) : Step F H F2 H2 :=
  ⟨a.up.trans b.up, b.sub, a.keep.trans b.keep, fun c o e => by
    rcases b.new c o e with e1 | e1
    · exact a.new c o e1
    · exact .inr (a.keep.free e1)⟩
theorem Step.unfz {a : Addr} {o : HO} (s : Step F H F' H') (h : H a = some o) (n : F a = none) : F' a = none := by
  cases q : F' a with
  | none => rfl
  | some u =>
    rcases s.new a u q with e | e
    · rw [n] at e; cases e
    · rw [h] at e; cases e

inductive Kd where | fz | ow | bo
noncomputable def Val (K : PySem.W.Frag) (F' H H' : Hp) : Kd → D → V → Prop
  | .fz, d, v => Rep K F' d v
  | .ow, d, v => ∃ a, v = .ref a ∧ H a = none ∧ F' a = none ∧ Cell K F' H' a d
  | .bo, d, v => ∃ a, v = .ref a ∧ F' a = none ∧ Cell K F' H' a d
theorem Val.rd {k : Kd} {d : D} {v : V} (h : Val K F' H H' k d v) : RdV K F' H' d v := by
  cases k with
  | fz => exact .inl h
  | ow => obtain ⟨a, h1, _, _, h2⟩ := h; exact .inr ⟨a, h1, h2⟩
  | bo => obtain ⟨a, h1, _, h2⟩ := h; exact .inr ⟨a, h1, h2⟩
theorem Val.later {k : Kd} {d : D} {v : V} {F1 H1 : Hp} (h : Val K F' H H' k d v) (s : Step F' H' F1 H1) : Val K F1 H H1 k d v := by
  cases k with
  | fz => exact Rep.mono s.up h
  | ow => obtain ⟨a, h1, h2, h3, h4⟩ := h; obtain ⟨o, ho⟩ := h4.some; exact ⟨a, h1, h2, s.unfz ho h3, h4.mono s.up fun o e => s.keep _ _ e⟩
  | bo => obtain ⟨a, h1, h3, h4⟩ := h; obtain ⟨o, ho⟩ := h4.some; exact ⟨a, h1, s.unfz ho h3, h4.mono s.up fun o e => s.keep _ _ e⟩
theorem Val.early {k : Kd} {d : D} {v : V} {H1 : Hp} (h : Val K F' H1 H' k d v) (e : Same H H1) : Val K F' H H' k d v := by
  cases k with
  | fz => exact h
  | ow => obtain ⟨a, h1, h2, h3, h4⟩ := h; exact ⟨a, h1, e.free h2, h3, h4⟩
  | bo => exact h
theorem RdV.later {d : D} {v : V} {F1 H1 : Hp} (h : RdV K F H d v) (s : Step F H F1 H1) : RdV K F1 H1 d v := by
  rcases h with h | ⟨a, h1, h2⟩
  · exact .inl (h.mono s.up)
  · exact .inr ⟨a, h1, h2.mono s.up fun o e => s.keep _ _ e⟩
theorem RdV.rep {d : D} {v : V} (h : RdV K F H d v) (s : Same F H) : Rep K H d v := by
  rcases h with h | ⟨a, rfl, h2⟩
  · exact h.mono s
  · exact h2.rep s fun o e => e

theorem RdV.non {v : V} (h : RdV K F H .non v) : v = .non := by
  rcases h with h | ⟨a, _, h⟩
  · rw [Rep] at h; exact h
  · exact h.elim
theorem RdV.bl {b : Bool} {v : V} (h : RdV K F H (.bl b) v) : v = .bl b := by
  rcases h with h | ⟨a, _, h⟩
  · rw [Rep] at h; exact h
  · exact h.elim
theorem RdV.int {i : Int} {v : V} (h : RdV K F H (.int i) v) : v = .int i := by
  rcases h with h | ⟨a, _, h⟩
  · rw [Rep] at h; exact h
  · exact h.elim
theorem RdV.str {x : Str} {v : V} (h : RdV K F H (.str x) v) : v = .str x := by
  rcases h with h | ⟨a, _, h⟩
  · rw [Rep] at h; exact h
  · exact h.elim
theorem RdV.ty {n : String} {v : V} (h : RdV K F H (.ty n) v) : v = .ty n := by
  rcases h with h | ⟨a, _, h⟩
  · rw [Rep] at h; exact h
  · exact h.elim
theorem RdV.tup {xs : List D} {v : V} (s : Same F H) (h : RdV K F H (.tup xs) v) : ∃ a vs, v = .ref a ∧ H a = some (.tup vs) ∧ Reps K F xs vs := by
  rcases h with h | ⟨a, _, h⟩
  · rw [Rep] at h
    obtain ⟨a, vs, h1, h2, h3⟩ := h
    exact ⟨a, vs, h1, s _ _ h2, h3⟩
  · exact h.elim
theorem RdV.lst {xs : List D} {v : V} (s : Same F H) (h : RdV K F H (.lst xs) v) : ∃ a vs, v = .ref a ∧ H a = some (.lst vs) ∧ Reps K F xs vs := by
  rcases h with h | ⟨a, h1, h⟩
  · rw [Rep] at h
    obtain ⟨a, vs, h1, h2, h3⟩ := h
    exact ⟨a, vs, h1, s _ _ h2, h3⟩
  · obtain ⟨vs, h2, h3⟩ := h
    exact ⟨a, vs, h1, h2, h3⟩
theorem RdV.scr {xs : List D} {v : V} (s : Same F H) (h : RdV K F H (.scr xs) v) : ∃ a vs, v = .ref a ∧ SqL K H a vs ∧ Reps K F xs vs := by
  rcases h with h | ⟨a, _, h⟩
  · rw [Rep] at h
    obtain ⟨a, vs, h1, h2, h3⟩ := h
    exact ⟨a, vs, h1, Same.seq s h2, h3⟩
  · exact h.elim

structure Post (K : PySem.W.Frag) (F H : Hp) (k : Kd) (d : D) (F' : Hp) (v : V) (H' : Hp) : Prop where
  st : Step F H F' H'
  val : Val K F' H H' k d v
theorem Post.frz {d : D} {v : V} (p : Post K F H .ow d F' v H') : ∃ F'', Post K F H .fz d F'' v H' := by
  obtain ⟨s, a, rfl, h1, h2, h3⟩ := p
  obtain ⟨o, ho⟩ := h3.some
  have up : Same F' (upd F' a o) := fun b u e => by
    rw [upd_ne]; exact e
    rintro rfl; rw [h2] at e; cases e
  refine ⟨upd F' a o, ⟨s.up.trans up, fun b u e => ?_, s.keep, fun b u e => ?_⟩, h3.rep up fun o' e => ?_⟩
  · by_cases hb : b = a
    · subst hb; rw [upd_same] at e; cases e; exact ho
    · rw [upd_ne hb] at e; exact s.sub _ _ e
  · by_cases hb : b = a
    · subst hb; exact .inr h1
    · rw [upd_ne hb] at e; exact s.new _ _ e
  · rw [ho] at e; cases e; exact upd_same
theorem Post.own {a : Addr} {o : HO} {d : D} (s : Step F H F' H') (n : H' a = none) (c : ∀ H2, H2 a = some o → Cell K F' H2 a d) : Post K F H .ow d F' (.ref a) (upd H' a o) := by
  have up : Same H' (upd H' a o) := fun b u e => by
    rw [upd_ne]; exact e
    rintro rfl; rw [n] at e; cases e
  exact ⟨⟨s.up, s.sub.trans up, s.keep.trans up, s.new⟩, a, rfl, s.keep.free n, s.sub.free n, c _ upd_same⟩
theorem Post.made {a : Addr} {o : HO} {d : D} (s : Step F H F' H') (n : H' a = none) (c : ∀ F2, Same F' F2 → F2 a = some o → Rep K F2 d (.ref a)) : ∃ F2, Post K F H .fz d F2 (.ref a) (upd H' a o) := by
  have up : ∀ G : Hp, G a = none → Same G (upd G a o) := fun G n b u e => by
    rw [upd_ne]; exact e
    rintro rfl; rw [n] at e; cases e
  have nf : F' a = none := s.sub.free n
  refine ⟨upd F' a o, ⟨s.up.trans (up _ nf), fun b u e => ?_, s.keep.trans (up _ n), fun b u e => ?_⟩, c _ (up _ nf) upd_same⟩
  · by_cases hb : b = a
    · subst hb; rw [upd_same] at e ⊢; exact e
    · rw [upd_ne hb] at e ⊢; exact s.sub _ _ e
  · by_cases hb : b = a
    · subst hb; exact .inr (s.keep.free n)
    · rw [upd_ne hb] at e; exact s.new _ _ e
theorem Post.pure {d : D} {v : V} (s : Step F H F' H') (h : Rep K F' d v) : Post K F H .fz d F' v H' := ⟨s, h⟩

noncomputable abbrev Ev := List (Option (Kd × D))
structure FI (K : PySem.W.Frag) (F0 H0 F H : Hp) (ev : Ev) (σ : St) : Prop where
  st : Step F0 H0 F H
  at_ : ∀ (i : Nat) k d, ev[i]? = some (some (k, d)) → k ≠ .bo ∧ ∃ v, σ[i]? = some (some v) ∧ Val K F H0 H k d v
  apart : ∀ (i j : Nat) d e, i ≠ j → ev[i]? = some (some (.ow, d)) → ev[j]? = some (some (.ow, e)) → σ[i]? ≠ σ[j]?
  len : ev.length = σ.length
variable {ev : Ev} {σ : St}
theorem FI.later {F1 H1 : Hp} (f : FI K F0 H0 F H ev σ) (s : Step F H F1 H1) : FI K F0 H0 F1 H1 ev σ :=
  ⟨f.st.trans s, fun i k d e => by obtain ⟨n, v, e1, h⟩ := f.at_ i k d e; exact ⟨n, v, e1, h.later s⟩, f.apart, f.len⟩
theorem FI.sub (f : FI K F0 H0 F H ev σ) : Same F H := f.st.sub
theorem FI.refl (f : FI K F0 H0 F H ev σ) : Step F H F H := .refl f.sub
theorem FI.set {i : Nat} {k : Kd} {d : D} {v : V} (f : FI K F0 H0 F H ev σ) (p : Post K F H k d F' v H') (nb : k ≠ .bo) : FI K F0 H0 F' H' (ev.set i (some (k, d))) (σ.set i (some v)) := by
  have f' := f.later p.st
  refine ⟨f'.st, fun j k' d' e => ?_, fun j l d1 d2 hjl e1 e2 => ?_, by simpa using f.len⟩
  · by_cases hj : i = j
    · subst hj
      rw [List.getElem?_set_self'] at e
      cases q : ev[i]? with
      | none => rw [q] at e; cases e
      | some z =>
        rw [q] at e
        cases e
        have hi : i < σ.length := by rw [← f.len]; exact (List.getElem?_eq_some_iff.mp q).1
        exact ⟨nb, v, by rw [List.getElem?_set_self hi], p.val.early f.st.keep⟩
    · rw [List.getElem?_set_ne hj] at e ⊢
      exact f'.at_ j k' d' e
  · -- an owned new one differs from the others
    have key : ∀ (j : Nat) (e' : D), i ≠ j → k = .ow → ev[j]? = some (some (.ow, e')) → σ[j]? ≠ some (some v) := fun j e' hij hk ej z => by
      subst hk
      obtain ⟨_, u, ej', b, hb, _, _, c⟩ := f.at_ j _ _ ej
      obtain ⟨a, ha, hn, _, _⟩ := p.val
      rw [z] at ej'
      have ej'' : v = u := by simpa using ej'
      subst ej''; subst ha; cases hb
      obtain ⟨o, ho⟩ := c.some
      rw [hn] at ho; cases ho
    have inEv : ∀ {m : Nat} {x : Option (Kd × D)}, (ev.set i (some (k, d)))[i]? = some x → (σ.set i (some v))[i]? = some (some v) := fun {m x} e => by
      rw [List.getElem?_set_self'] at e
      cases q : ev[i]? with
      | none => rw [q] at e; cases e
      | some z =>
        have hi : i < σ.length := by rw [← f.len]; exact (List.getElem?_eq_some_iff.mp q).1
        rw [List.getElem?_set_self hi]
    have kow : ∀ {x : D}, (ev.set i (some (k, d)))[i]? = some (some (.ow, x)) → k = .ow := fun {x} e => by
      rw [List.getElem?_set_self'] at e
      cases q : ev[i]? with
      | none => rw [q] at e; cases e
      | some z =>
        rw [q] at e
        have : some (k, d) = some (Kd.ow, x) := Option.some.inj e
        cases this; rfl
    by_cases hj : i = j
    · subst hj
      rw [List.getElem?_set_ne hjl] at e2
      rw [inEv (m := i) e1, List.getElem?_set_ne hjl]
      exact fun z => key l d2 hjl (kow e1) e2 z.symm
    · by_cases hl : i = l
      · subst hl
        rw [List.getElem?_set_ne hj] at e1
        rw [inEv (m := i) e2, List.getElem?_set_ne hj]
        exact fun z => key j d1 hj (kow e2) e1 z
      · rw [List.getElem?_set_ne hj] at e1 ⊢
        rw [List.getElem?_set_ne hl] at e2 ⊢
        exact f.apart j l d1 d2 hjl e1 e2
theorem FI.weak {ev' : Ev} (f : FI K F0 H0 F H ev σ) (hl : ev'.length = ev.length) (w : ∀ (i : Nat) k d, ev'[i]? = some (some (k, d)) → ev[i]? = some (some (k, d))) : FI K F0 H0 F H ev' σ :=
  ⟨f.st, fun i k d e => f.at_ i k d (w i k d e), fun i j d e h a b => f.apart i j d e h (w _ _ _ a) (w _ _ _ b), hl.trans f.len⟩
end
end L3
set_option linter.all false
set_option maxRecDepth 100000
namespace L3
open PySem L2
inductive R where | ok (k : Kd) (d : D) | ex (C : Addr) | no
inductive RA where | ok (l : List (Kd × D)) | ex (C : Addr) | no
inductive Fl where | nx (ev : Ev) | rt (k : Kd) (d : D) | bk (ev : Ev) | ct (ev : Ev) | ex (C : Addr) | no
noncomputable abbrev Psi := Addr → Hp → Prop

noncomputable def ValA (K : PySem.W.Frag) (F' H H' : Hp) : List (Kd × D) → List V → Prop
  | [], vs => vs = []
  | (k, d) :: l, vs => ∃ v r, vs = v :: r ∧ k ≠ .ow ∧ Val K F' H H' k d v ∧ ValA K F' H H' l r

noncomputable def tV (K : PySem.W.Frag) (F0 H0 : Hp) (Ψ : Psi) (f : Ev → R) : TE := fun σ H Q => ∃ F ev, FI K F0 H0 F H ev σ ∧ match f ev with
  | .ok k d => ∀ F' v H', Post K F H k d F' v H' → Q v H'
  | .ex C => ∀ F' H', Step F0 H0 F' H' → Ψ C H'
  | .no => False
noncomputable def tVT (K : PySem.W.Frag) (F0 H0 : Hp) (Ψ : Psi) (f : Ev → R) : TT := fun σ H Q => ∃ F ev, FI K F0 H0 F H ev σ ∧ match f ev with
  | .ok _ (.bl b) => ∀ F' H', Step F H F' H' → Q b H'
  | .ex C => ∀ F' H', Step F0 H0 F' H' → Ψ C H'
  | _ => False
noncomputable def tVA (K : PySem.W.Frag) (F0 H0 : Hp) (Ψ : Psi) (f : Ev → RA) : TA := fun σ H Q => ∃ F ev, FI K F0 H0 F H ev σ ∧ match f ev with
  | .ok l => ∀ F' vs H', Step F H F' H' → ValA K F' H H' l vs → Q vs H'
  | .ex C => ∀ F' H', Step F0 H0 F' H' → Ψ C H'
  | .no => False
noncomputable def FlowTo (K : PySem.W.Frag) (F0 H0 : Hp) (Ψ : Psi) (F : Hp) (D : Ends) : Fl → Prop
  | .nx ev => ∀ F' H' σ', Same F F' → FI K F0 H0 F' H' ev σ' → D.nx σ' H'
  | .rt k d => ∀ F' v H', Post K F0 H0 k d F' v H' → D.rt v H'
  | .bk ev => ∀ F' H' σ', Same F F' → FI K F0 H0 F' H' ev σ' → D.bk σ' H'
  | .ct ev => ∀ F' H' σ', Same F F' → FI K F0 H0 F' H' ev σ' → D.ct σ' H'
  | .ex C => ∀ F' H', Step F0 H0 F' H' → Ψ C H'
  | .no => False
noncomputable def tSv (K : PySem.W.Frag) (F0 H0 : Hp) (Ψ : Psi) (g : Ev → Fl) : TS := fun D σ H => ∃ F ev, FI K F0 H0 F H ev σ ∧ FlowTo K F0 H0 Ψ F D (g ev)

noncomputable def VE (X : Cx) (F0 H0 : Hp) (Ψ : Psi) (e : Expr) (f : Ev → R) : Prop := PE X e (tV X.K F0 H0 Ψ f)
noncomputable def VT (X : Cx) (F0 H0 : Hp) (Ψ : Psi) (e : Expr) (f : Ev → R) : Prop := PT X e (tVT X.K F0 H0 Ψ f)
noncomputable def VW (X : Cx) (F0 H0 : Hp) (Ψ : Psi) (e : Expr) (f : Ev → R) : Prop := PW X e (tVT X.K F0 H0 Ψ f)
noncomputable def VA (X : Cx) (F0 H0 : Hp) (Ψ : Psi) (es : List Expr) (f : Ev → RA) : Prop := PA X es (tVA X.K F0 H0 Ψ f)
noncomputable def VS (X : Cx) (F0 H0 : Hp) (Ψ : Psi) (st : Stmt) (g : Ev → Fl) : Prop := PS X st (tSv X.K F0 H0 Ψ g)
noncomputable def VSs (X : Cx) (F0 H0 : Hp) (Ψ : Psi) (sts : List Stmt) (g : Ev → Fl) : Prop := PSs X sts (tSv X.K F0 H0 Ψ g)

section
variable {X : Cx} {K : PySem.W.Frag} {F0 H0 F H F' H' : Hp} {Ψ : Psi} {σ : St} {ev : Ev}
noncomputable def varR (i : Nat) (ev : Ev) : R := match ev[i]? with
  | some (some (.fz, d)) => .ok .fz d
  | some (some (.ow, d)) => .ok .bo d
  | _ => .no
theorem tVar_of {i : Nat} {Q : VK} (h : tV K F0 H0 Ψ (varR i) σ H Q) : tVar i σ H Q := by
  obtain ⟨F, ev, fi, m⟩ := h
  unfold varR at m
  split at m
  · rename_i k d hm
    split at hm
    · rename_i d' e
      cases hm
      obtain ⟨_, v, e1, hv⟩ := fi.at_ _ _ _ e
      exact ⟨v, e1, m F v H ⟨fi.refl, hv⟩⟩
    · rename_i d' e
      cases hm
      obtain ⟨_, v, e1, a, h1, h2, h3, h4⟩ := fi.at_ _ _ _ e
      exact ⟨v, e1, m F v H ⟨fi.refl, a, h1, h3, h4⟩⟩
    · cases hm
  · rename_i C hm
    split at hm <;> cases hm
  · exact m.elim
noncomputable def conR (d : D) (_ : Ev) : R := .ok .fz d
theorem tC_of {v : V} {d : D} {Q : VK} (r : Rep K F0 d v) (h : tV K F0 H0 Ψ (conR d) σ H Q) : tC v σ H Q := by
  obtain ⟨F, ev, fi, m⟩ := h
  exact m F v H ⟨fi.refl, r.mono fi.st.up⟩

noncomputable abbrev G2 := D → D → Option (Kd × D)
noncomputable def toR : Option (Kd × D) → R
  | some (k, d) => .ok k d
  | none => .no
noncomputable def op2 (g : G2) : R → R → R
  | .ok _ a, .ok _ b => toR (g a b)
  | .ok _ _, r => r
  | r, _ => r
noncomputable def OkOp (K : PySem.W.Frag) (r : R2) (g : G2) : Prop := ∀ (F H : Hp) dx dy x y k d (Q : VK), Same F H → RdV K F H dx x → RdV K F H dy y → g dx dy = some (k, d) → (∀ F' v H', Post K F H k d F' v H' → Q v H') → r x y H Q
theorem OkOp.or {r r' : R2} {g g' : G2} (h : OkOp K r g) (h' : OkOp K r' g') : OkOp K (fun x y H Q => r x y H Q ∨ r' x y H Q) (fun a b => (g a b).or (g' a b)) := by
  intro F H dx dy x y k d Q s rx ry e q
  dsimp only at e
  cases e1 : g dx dy with
  | some z => obtain ⟨k', d'⟩ := z; rw [e1] at e; cases e; exact .inl (h F H dx dy x y k d Q s rx ry e1 q)
  | none => rw [e1] at e; exact .inr (h' F H dx dy x y k d Q s rx ry e q)
theorem tOp_of {r : R2} {g : G2} {f1 f2 : Ev → R} {Q : VK} (ho : OkOp K r g) (h : tV K F0 H0 Ψ (fun ev => op2 g (f1 ev) (f2 ev)) σ H Q) : tOp r (tV K F0 H0 Ψ f1) (tV K F0 H0 Ψ f2) σ H Q := by
  obtain ⟨F, ev, fi, m⟩ := h
  try dsimp only at m
  refine ⟨F, ev, fi, ?_⟩
  cases h1 : f1 ev with
  | no => rw [h1] at m; exact m
  | ex C => rw [h1] at m; exact m
  | ok k1 d1 =>
    rw [h1] at m
    intro F1 x H1 p1
    refine ⟨F1, ev, fi.later p1.st, ?_⟩
    cases h2 : f2 ev with
    | no => rw [h2] at m; exact m
    | ex C => rw [h2] at m; exact m
    | ok k2 d2 =>
      rw [h2] at m
      intro F2 y H2 p2
      have m : match toR (g d1 d2) with
        | .ok k d => ∀ F' v H', Post K F H k d F' v H' → Q v H'
        | .ex C => ∀ F' H', Step F0 H0 F' H' → Ψ C H'
        | .no => False := m
      cases e : g d1 d2 with
      | none => rw [e] at m; exact m.elim
      | some z =>
        obtain ⟨k, d⟩ := z
        rw [e] at m
        have s := p1.st.trans p2.st
        exact ho F2 H2 d1 d2 x y k d Q p2.st.sub (p1.val.rd.later p2.st) p2.val.rd e fun F3 v H3 p3 => m F3 v H3 ⟨s.trans p3.st, p3.val.early s.keep⟩

theorem tB_of {f : Ev → R} {Q : Bool → Hp → Prop} (h : tVT K F0 H0 Ψ f σ H Q) : tB (tV K F0 H0 Ψ f) σ H Q := by
  obtain ⟨F, ev, fi, m⟩ := h
  try dsimp only at m
  refine ⟨F, ev, fi, ?_⟩
  cases h1 : f ev with
  | no => rw [h1] at m; exact m
  | ex C => rw [h1] at m; exact m
  | ok k d =>
    rw [h1] at m
    intro F1 v H1 p
    cases d with
    | bl b => exact ⟨b, p.val.rd.bl, m F1 H1 p.st⟩
    | _ => exact m.elim
noncomputable def andR : R → R → R
  | .ok _ (.bl b), r => if b then r else .ok .fz (.bl false)
  | .ex C, _ => .ex C
  | _, _ => .no
noncomputable def orR : R → R → R
  | .ok _ (.bl b), r => if b then .ok .fz (.bl true) else r
  | .ex C, _ => .ex C
  | _, _ => .no
noncomputable def notR : R → R
  | .ok _ (.bl b) => .ok .fz (.bl !b)
  | .ex C => .ex C
  | _ => .no
theorem tAnd_of {f g : Ev → R} {Q : Bool → Hp → Prop} (h : tVT K F0 H0 Ψ (fun ev => andR (f ev) (g ev)) σ H Q) : tAnd (tVT K F0 H0 Ψ f) (tVT K F0 H0 Ψ g) σ H Q := by
  obtain ⟨F, ev, fi, m⟩ := h
  try dsimp only at m
  refine ⟨F, ev, fi, ?_⟩
  cases h1 : f ev with
  | no => rw [h1] at m; exact m
  | ex C => rw [h1] at m; exact m
  | ok k d =>
    rw [h1] at m
    cases d with
    | bl b =>
      intro F1 H1 p
      cases b with
      | true =>
        rw [if_pos rfl]
        refine ⟨F1, ev, fi.later p, ?_⟩
        have m : match g ev with
          | .ok _ (.bl b) => ∀ F' H', Step F H F' H' → Q b H'
          | .ex C => ∀ F' H', Step F0 H0 F' H' → Ψ C H'
          | _ => False := m
        cases h2 : g ev with
        | no => rw [h2] at m; exact m
        | ex C => rw [h2] at m; exact m
        | ok k2 d2 =>
          rw [h2] at m
          cases d2 with
          | bl b => exact fun F2 H2 p2 => m F2 H2 (p.trans p2)
          | _ => exact m.elim
      | false => rw [if_neg Bool.false_ne_true]; exact m F1 H1 p
    | _ => exact m.elim
theorem tOr_of {f g : Ev → R} {Q : Bool → Hp → Prop} (h : tVT K F0 H0 Ψ (fun ev => orR (f ev) (g ev)) σ H Q) : tOr (tVT K F0 H0 Ψ f) (tVT K F0 H0 Ψ g) σ H Q := by
  obtain ⟨F, ev, fi, m⟩ := h
  try dsimp only at m
  refine ⟨F, ev, fi, ?_⟩
  cases h1 : f ev with
  | no => rw [h1] at m; exact m
  | ex C => rw [h1] at m; exact m
  | ok k d =>
    rw [h1] at m
    cases d with
    | bl b =>
      intro F1 H1 p
      cases b with
      | false =>
        rw [if_neg Bool.false_ne_true]
        refine ⟨F1, ev, fi.later p, ?_⟩
        have m : match g ev with
          | .ok _ (.bl b) => ∀ F' H', Step F H F' H' → Q b H'
          | .ex C => ∀ F' H', Step F0 H0 F' H' → Ψ C H'
          | _ => False := m
        cases h2 : g ev with
        | no => rw [h2] at m; exact m
        | ex C => rw [h2] at m; exact m
        | ok k2 d2 =>
          rw [h2] at m
          cases d2 with
          | bl b => exact fun F2 H2 p2 => m F2 H2 (p.trans p2)
          | _ => exact m.elim
      | true => rw [if_pos rfl]; exact m F1 H1 p
    | _ => exact m.elim
theorem tNot_of {f : Ev → R} {Q : Bool → Hp → Prop} (h : tVT K F0 H0 Ψ (fun ev => notR (f ev)) σ H Q) : tNot (tVT K F0 H0 Ψ f) σ H Q := by
  obtain ⟨F, ev, fi, m⟩ := h
  try dsimp only at m
  refine ⟨F, ev, fi, ?_⟩
  cases h1 : f ev with
  | no => rw [h1] at m; exact m
  | ex C => rw [h1] at m; exact m
  | ok k d =>
    rw [h1] at m
    cases d with
    | bl b => exact fun F1 H1 p => m F1 H1 p
    | _ => exact m.elim
theorem tAndV_of {f g : Ev → R} {Q : VK} (h : tV K F0 H0 Ψ (fun ev => andR (f ev) (g ev)) σ H Q) : tAndV (tV K F0 H0 Ψ f) (tV K F0 H0 Ψ g) σ H Q := by
  obtain ⟨F, ev, fi, m⟩ := h
  try dsimp only at m
  refine ⟨F, ev, fi, ?_⟩
  cases h1 : f ev with
  | no => rw [h1] at m; exact m
  | ex C => rw [h1] at m; exact m
  | ok k d =>
    rw [h1] at m
    intro F1 x H1 p
    cases d with
    | bl b =>
      refine ⟨b, p.val.rd.bl, ?_⟩
      cases b with
      | true =>
        rw [if_pos rfl]
        refine ⟨F1, ev, fi.later p.st, ?_⟩
        have m : match g ev with
          | .ok k d => ∀ F' v H', Post K F H k d F' v H' → Q v H'
          | .ex C => ∀ F' H', Step F0 H0 F' H' → Ψ C H'
          | .no => False := m
        cases h2 : g ev with
        | no => rw [h2] at m; exact m
        | ex C => rw [h2] at m; exact m
        | ok k2 d2 => rw [h2] at m; exact fun F2 y H2 p2 => m F2 y H2 ⟨p.st.trans p2.st, p2.val.early p.st.keep⟩
      | false => rw [if_neg Bool.false_ne_true]; exact m F1 _ H1 ⟨p.st, by rw [Val, Rep]⟩
    | _ => exact m.elim
theorem tOrV_of {f g : Ev → R} {Q : VK} (h : tV K F0 H0 Ψ (fun ev => orR (f ev) (g ev)) σ H Q) : tOrV (tV K F0 H0 Ψ f) (tV K F0 H0 Ψ g) σ H Q := by
  obtain ⟨F, ev, fi, m⟩ := h
  try dsimp only at m
  refine ⟨F, ev, fi, ?_⟩
  cases h1 : f ev with
  | no => rw [h1] at m; exact m
  | ex C => rw [h1] at m; exact m
  | ok k d =>
    rw [h1] at m
    intro F1 x H1 p
    cases d with
    | bl b =>
      refine ⟨b, p.val.rd.bl, ?_⟩
      cases b with
      | false =>
        rw [if_neg Bool.false_ne_true]
        refine ⟨F1, ev, fi.later p.st, ?_⟩
        have m : match g ev with
          | .ok k d => ∀ F' v H', Post K F H k d F' v H' → Q v H'
          | .ex C => ∀ F' H', Step F0 H0 F' H' → Ψ C H'
          | .no => False := m
        cases h2 : g ev with
        | no => rw [h2] at m; exact m
        | ex C => rw [h2] at m; exact m
        | ok k2 d2 => rw [h2] at m; exact fun F2 y H2 p2 => m F2 y H2 ⟨p.st.trans p2.st, p2.val.early p.st.keep⟩
      | true => rw [if_pos rfl]; exact m F1 _ H1 ⟨p.st, by rw [Val, Rep]⟩
    | _ => exact m.elim
noncomputable def frzK : Kd → Kd
  | .ow => .fz
  | k => k
noncomputable def consA : R → RA → RA
  | .ok k d, .ok l => .ok ((frzK k, d) :: l)
  | .ok _ _, r => r
  | .ex C, _ => .ex C
  | .no, _ => .no
theorem ValA.early {H1 : Hp} : ∀ {l : List (Kd × D)} {vs : List V}, ValA K F' H1 H' l vs → Same H H1 → ValA K F' H H' l vs
  | [], _, h, _ => h
  | (k, d) :: l, _, h, s => by
    obtain ⟨v, r, h1, h2, h3, h4⟩ := h
    exact ⟨v, r, h1, h2, h3.early s, ValA.early h4 s⟩
theorem Post.frzK {k : Kd} {d : D} {v : V} (p : Post K F H k d F' v H') : ∃ F'', Post K F H (frzK k) d F'' v H' ∧ L3.frzK k ≠ .ow := by
  cases k with
  | fz => exact ⟨F', p, by simp [L3.frzK]⟩
  | bo => exact ⟨F', p, by simp [L3.frzK]⟩
  | ow => obtain ⟨F'', q⟩ := p.frz; exact ⟨F'', q, by simp [L3.frzK]⟩
theorem tNil_of {Q : List V → Hp → Prop} (h : tVA K F0 H0 Ψ (fun _ => .ok []) σ H Q) : tNil σ H Q := by
  obtain ⟨F, ev, fi, m⟩ := h
  exact m F [] H fi.refl rfl
theorem tCons_of {f : Ev → R} {fs : Ev → RA} {Q : List V → Hp → Prop} (h : tVA K F0 H0 Ψ (fun ev => consA (f ev) (fs ev)) σ H Q) : tCons (tV K F0 H0 Ψ f) (tVA K F0 H0 Ψ fs) σ H Q := by
  obtain ⟨F, ev, fi, m⟩ := h
  try dsimp only at m
  refine ⟨F, ev, fi, ?_⟩
  cases h1 : f ev with
  | no => rw [h1] at m; exact m
  | ex C => rw [h1] at m; exact m
  | ok k d =>
    rw [h1] at m
    intro F1 x H1 p
    obtain ⟨F1, p, nw⟩ := p.frzK
    refine ⟨F1, ev, fi.later p.st, ?_⟩
    cases h2 : fs ev with
    | no => rw [h2] at m; exact m
    | ex C => rw [h2] at m; exact m
    | ok l =>
      rw [h2] at m
      exact fun F2 vs H2 s v => m F2 (x :: vs) H2 (p.st.trans s) ⟨x, vs, rfl, nw, p.val.later s, v.early p.st.keep⟩

noncomputable def allFz : List (Kd × D) → Option (List D)
  | [] => some []
  | (.fz, d) :: l => (allFz l).map (d :: ·)
  | _ => none
theorem ValA.fz : ∀ {l : List (Kd × D)} {vs : List V} {ds : List D}, ValA K F' H H' l vs → allFz l = some ds → Reps K F' ds vs
  | [], _, _, h, e => by cases e; cases h; exact .nil
  | (k, d) :: l, _, ds, h, e => by
    obtain ⟨v, r, rfl, h2, h3, h4⟩ := h
    cases k with
    | fz =>
      simp only [allFz] at e
      cases q : allFz l with
      | none => rw [q] at e; cases e
      | some ds' => rw [q] at e; cases e; exact .cons h3 (ValA.fz h4 q)
    | _ => cases e
theorem ValA.rds : ∀ {l : List (Kd × D)} {vs : List V}, ValA K F' H H' l vs → Same F' H' → Reps K H' (l.map (·.2)) vs
  | [], _, h, _ => by cases h; exact .nil
  | (k, d) :: l, _, h, s => by
    obtain ⟨v, r, rfl, h2, h3, h4⟩ := h
    exact .cons (h3.rd.rep s) (ValA.rds h4 s)
theorem ValA.length : ∀ {l : List (Kd × D)} {vs : List V}, ValA K F' H H' l vs → l.length = vs.length
  | [], _, h => by cases h; rfl
  | (k, d) :: l, _, h => by obtain ⟨v, r, rfl, h2, h3, h4⟩ := h; simp [ValA.length h4]
noncomputable def LIM : Nat := 1000000
noncomputable def tupR : RA → R
  | .ok l => match allFz l with
    | some ds => if ds.length ≤ LIM then .ok .fz (.tup ds) else .no
    | none => .no
  | .ex C => .ex C
  | .no => .no
noncomputable def lstR : RA → R
  | .ok l => match allFz l with
    | some ds => if ds.length ≤ LIM then .ok .ow (.lst ds) else .no
    | none => .no
  | .ex C => .ex C
  | .no => .no
theorem tTup_of {fs : Ev → RA} {Q : VK} (h : tV K F0 H0 Ψ (fun ev => tupR (fs ev)) σ H Q) : tTup (tVA K F0 H0 Ψ fs) σ H Q := by
  obtain ⟨F, ev, fi, m⟩ := h
  try dsimp only at m
  refine ⟨F, ev, fi, ?_⟩
  cases h1 : fs ev with
  | no => rw [h1] at m; exact m
  | ex C => rw [h1] at m; exact m
  | ok l =>
    rw [h1] at m
    intro F1 vs H1 s va
    simp only [tupR] at m
    cases q : allFz l with
    | none => rw [q] at m; exact m.elim
    | some ds =>
      rw [q] at m
      by_cases hl : ds.length ≤ LIM
      · simp only [hl, if_true] at m
        have rs := va.fz q
        refine ⟨by rw [← rs.length]; exact Nat.le_trans hl sizeLine_ge, fun p hp => ?_⟩
        obtain ⟨F2, p2⟩ := Post.made (K := K) (d := .tup ds) (o := .tup vs) s hp fun F2 up e => by rw [Rep]; exact ⟨p, vs, rfl, e, rs.mono up⟩
        exact m F2 _ _ p2
      · simp only [hl, if_false] at m
theorem tLst_of {fs : Ev → RA} {Q : VK} (h : tV K F0 H0 Ψ (fun ev => lstR (fs ev)) σ H Q) : tLst (tVA K F0 H0 Ψ fs) σ H Q := by
  obtain ⟨F, ev, fi, m⟩ := h
  try dsimp only at m
  refine ⟨F, ev, fi, ?_⟩
  cases h1 : fs ev with
  | no => rw [h1] at m; exact m
  | ex C => rw [h1] at m; exact m
  | ok l =>
    rw [h1] at m
    intro F1 vs H1 s va
    simp only [lstR] at m
    cases q : allFz l with
    | none => rw [q] at m; exact m.elim
    | some ds =>
      rw [q] at m
      by_cases hl : ds.length ≤ LIM
      · simp only [hl, if_true] at m
        have rs := va.fz q
        refine ⟨by rw [← rs.length]; exact Nat.le_trans hl sizeLine_ge, fun p hp => ?_⟩
        exact m F1 _ _ (Post.own s hp fun H2 e => ⟨vs, e, rs⟩)
      · simp only [hl, if_false] at m
noncomputable abbrev GN := List D → Option (Kd × D)
noncomputable def RdA (K : PySem.W.Frag) (F H : Hp) : List D → List V → Prop
  | [], vs => vs = []
  | d :: l, vs => ∃ v r, vs = v :: r ∧ RdV K F H d v ∧ RdA K F H l r
theorem ValA.rda : ∀ {l : List (Kd × D)} {vs : List V}, ValA K F' H H' l vs → RdA K F' H' (l.map (·.2)) vs
  | [], _, h => h
  | (k, d) :: l, _, h => by
    obtain ⟨v, r, rfl, h2, h3, h4⟩ := h
    exact ⟨v, r, rfl, h3.rd, ValA.rda h4⟩
noncomputable def OkCall (K : PySem.W.Frag) (r : List V → Hp → VK → Prop) (g : GN) : Prop := ∀ (F H : Hp) ds vs k d (Q : VK), Same F H → RdA K F H ds vs → g ds = some (k, d) → (∀ F' v H', Post K F H k d F' v H' → Q v H') → r vs H Q
noncomputable def callR (g : GN) : RA → R
  | .ok l => toR (g (l.map (·.2)))
  | .ex C => .ex C
  | .no => .no
theorem tCB_of {r : List V → Hp → VK → Prop} {g : GN} {fs : Ev → RA} {Q : VK} (ho : OkCall K r g) (h : tV K F0 H0 Ψ (fun ev => callR g (fs ev)) σ H Q) : tCB r (tVA K F0 H0 Ψ fs) σ H Q := by
  obtain ⟨F, ev, fi, m⟩ := h
  try dsimp only at m
  refine ⟨F, ev, fi, ?_⟩
  cases h1 : fs ev with
  | no => rw [h1] at m; exact m
  | ex C => rw [h1] at m; exact m
  | ok l =>
    rw [h1] at m
    intro F1 vs H1 s va
    have m : match toR (g (l.map (·.2))) with
        | .ok k d => ∀ F' v H', Post K F H k d F' v H' → Q v H'
        | .ex C => ∀ F' H', Step F0 H0 F' H' → Ψ C H'
        | .no => False := m
    cases e : g (l.map (·.2)) with
    | none => rw [e] at m; exact m.elim
    | some z =>
      obtain ⟨k, d⟩ := z
      rw [e] at m
      exact ho F1 H1 _ vs k d Q s.sub va.rda e fun F3 v H3 p3 => m F3 v H3 ⟨s.trans p3.st, p3.val.early s.keep⟩

theorem FlowTo.mono {E : Ends} {r : Fl} (h : FlowTo K F0 H0 Ψ F E r) (s : Same F F') : FlowTo K F0 H0 Ψ F' E r := by
  cases r with
  | nx ev => exact fun F2 H2 σ2 s2 fi => h F2 H2 σ2 (s.trans s2) fi
  | bk ev => exact fun F2 H2 σ2 s2 fi => h F2 H2 σ2 (s.trans s2) fi
  | ct ev => exact fun F2 H2 σ2 s2 fi => h F2 H2 σ2 (s.trans s2) fi
  | rt k d => exact h
  | ex C => exact h
  | no => exact h
noncomputable def seqG (g h : Ev → Fl) (ev : Ev) : Fl := match g ev with
  | .nx ev' => h ev'
  | r => r
theorem tSeq_of {g h : Ev → Fl} {E : Ends} (q : tSv K F0 H0 Ψ (seqG g h) E σ H) : tSeq (tSv K F0 H0 Ψ g) (tSv K F0 H0 Ψ h) E σ H := by
  obtain ⟨F, ev, fi, m⟩ := q
  refine ⟨F, ev, fi, ?_⟩
  unfold seqG at m
  cases h1 : g ev with
  | nx ev' => rw [h1] at m; exact fun F' H' σ' s fi' => ⟨F', ev', fi', m.mono s⟩
  | _ => rw [h1] at m; exact m
theorem tNext_of {E : Ends} (q : tSv K F0 H0 Ψ .nx E σ H) : tNext E σ H := by
  obtain ⟨F, ev, fi, m⟩ := q
  exact m F H σ (.refl _) fi
theorem tCont_of {E : Ends} (q : tSv K F0 H0 Ψ .ct E σ H) : tCont E σ H := by
  obtain ⟨F, ev, fi, m⟩ := q
  exact m F H σ (.refl _) fi
noncomputable def retG (f : Ev → R) (ev : Ev) : Fl := match f ev with
  | .ok .bo _ => .no
  | .ok k d => .rt k d
  | .ex C => .ex C
  | .no => .no
theorem tRet_of {f : Ev → R} {E : Ends} (q : tSv K F0 H0 Ψ (retG f) E σ H) : tRet (tV K F0 H0 Ψ f) E σ H := by
  obtain ⟨F, ev, fi, m⟩ := q
  refine ⟨F, ev, fi, ?_⟩
  unfold retG at m
  cases h1 : f ev with
  | no => rw [h1] at m; exact m
  | ex C => rw [h1] at m; exact m
  | ok k d =>
    rw [h1] at m
    intro F1 x H1 p
    cases k with
    | bo => exact m.elim
    | fz => exact m F1 x H1 ⟨fi.st.trans p.st, p.val.early fi.st.keep⟩
    | ow => exact m F1 x H1 ⟨fi.st.trans p.st, p.val.early fi.st.keep⟩
noncomputable def retVarG (i : Nat) (ev : Ev) : Fl := match ev[i]? with
  | some (some (.fz, d)) => .rt .fz d
  | some (some (.ow, d)) => .rt .ow d
  | _ => .no
theorem tRetVar_of {i : Nat} {E : Ends} (q : tSv K F0 H0 Ψ (retVarG i) E σ H) : tRet (tVar i) E σ H := by
  obtain ⟨F, ev, fi, m⟩ := q
  unfold retVarG at m
  split at m
  · rename_i d e
    obtain ⟨_, v, e1, hv⟩ := fi.at_ _ _ _ e
    exact ⟨v, e1, m F v H ⟨fi.st, hv⟩⟩
  · rename_i d e
    obtain ⟨_, v, e1, hv⟩ := fi.at_ _ _ _ e
    exact ⟨v, e1, m F v H ⟨fi.st, hv⟩⟩
  · exact m.elim
noncomputable def ifG (c : Ev → R) (g h : Ev → Fl) (ev : Ev) : Fl := match c ev with
  | .ok _ (.bl b) => if b then g ev else h ev
  | .ex C => .ex C
  | _ => .no
theorem tIfS_of {c : Ev → R} {g h : Ev → Fl} {E : Ends} (q : tSv K F0 H0 Ψ (ifG c g h) E σ H) : tIfS (tVT K F0 H0 Ψ c) (tSv K F0 H0 Ψ g) (tSv K F0 H0 Ψ h) E σ H := by
  obtain ⟨F, ev, fi, m⟩ := q
  refine ⟨F, ev, fi, ?_⟩
  unfold ifG at m
  cases h1 : c ev with
  | no => rw [h1] at m; exact m
  | ex C => rw [h1] at m; exact m
  | ok k d =>
    rw [h1] at m
    cases d with
    | bl b =>
      intro F1 H1 p
      cases b with
      | true => rw [if_pos rfl]; exact ⟨F1, ev, fi.later p, FlowTo.mono m p.up⟩
      | false => rw [if_neg Bool.false_ne_true]; exact ⟨F1, ev, fi.later p, FlowTo.mono m p.up⟩
    | _ => exact m.elim

noncomputable abbrev B1 := D → Ev → Option Ev
noncomputable abbrev BN := List D → Ev → Option Ev
noncomputable def gV (K : PySem.W.Frag) (F0 H0 : Hp) (b : B1) : TG := fun v σ H Q => ∃ F ev d ev', FI K F0 H0 F H ev σ ∧ Rep K F d v ∧ b d ev = some ev' ∧ ∀ H' σ', H' = H → FI K F0 H0 F H ev' σ' → Q σ' H'
noncomputable def gVs (K : PySem.W.Frag) (F0 H0 : Hp) (b : BN) : TGs := fun vs σ H Q => ∃ F ev ds ev', FI K F0 H0 F H ev σ ∧ Reps K F ds vs ∧ b ds ev = some ev' ∧ ∀ H' σ', H' = H → FI K F0 H0 F H ev' σ' → Q σ' H'
noncomputable def bName (i : Nat) : B1 := fun d ev => some (ev.set i (some (.fz, d)))
theorem gName_of {i : Nat} {v : V} {Q : St → Hp → Prop} (q : gV K F0 H0 (bName i) v σ H Q) : gName i v σ H Q := by
  obtain ⟨F, ev, d, ev', fi, r, e, m⟩ := q
  cases e
  exact m H _ rfl (fi.set ⟨fi.refl, r⟩ (by simp))
noncomputable def bNil : BN := fun ds ev => match ds with
  | [] => some ev
  | _ => none
noncomputable def bCons (b : B1) (c : BN) : BN := fun ds ev => match ds with
  | d :: r => (b d ev).bind (c r)
  | [] => none
theorem gNil_of {vs : List V} {Q : St → Hp → Prop} (q : gVs K F0 H0 bNil vs σ H Q) : gNil vs σ H Q := by
  obtain ⟨F, ev, ds, ev', fi, r, e, m⟩ := q
  cases ds with
  | nil => cases e; exact ⟨r.unnil, m H σ rfl fi⟩
  | cons d ds => cases e
theorem gCons_of {b : B1} {c : BN} {vs : List V} {Q : St → Hp → Prop} (q : gVs K F0 H0 (bCons b c) vs σ H Q) : gCons (gV K F0 H0 b) (gVs K F0 H0 c) vs σ H Q := by
  obtain ⟨F, ev, ds, ev', fi, r, e, m⟩ := q
  cases ds with
  | nil => cases e
  | cons d ds =>
    obtain ⟨v, t, rfl, h1, h2⟩ := r.uncons
    refine ⟨v, t, rfl, ?_⟩
    simp only [bCons] at e
    cases q1 : b d ev with
    | none => rw [q1] at e; cases e
    | some ev1 =>
      rw [q1] at e
      refine ⟨F, ev, d, ev1, fi, h1, q1, fun H' σ' hH fi' => ?_⟩
      subst hH
      exact ⟨F, ev1, ds, ev', fi', h2, e, m⟩
noncomputable def bTup (n : Nat) (c : BN) : B1 := fun d ev => match d with
  | .tup ds => if ds.length = n then c ds ev else none
  | _ => none
theorem gTup_of {n : Nat} {c : BN} {v : V} {Q : St → Hp → Prop} (q : gV K F0 H0 (bTup n c) v σ H Q) : gTup K n (gVs K F0 H0 c) v σ H Q := by
  obtain ⟨F, ev, d, ev', fi, r, e, m⟩ := q
  cases d with
  | tup ds =>
    rw [Rep] at r
    obtain ⟨a, vs, h1, h2, h3⟩ := r
    simp only [bTup] at e
    by_cases hn : ds.length = n
    · rw [if_pos hn] at e
      exact ⟨a, vs, h1, SqT.of (fi.sub _ _ h2), by rw [← h3.length]; exact hn, F, ev, ds, ev', fi, h3, e, m⟩
    · rw [if_neg hn] at e; cases e
  | _ => cases e
noncomputable def setG (i : Nat) (f : Ev → R) (ev : Ev) : Fl := match f ev with
  | .ok .bo _ => .no
  | .ok k d => .nx (ev.set i (some (k, d)))
  | .ex C => .ex C
  | .no => .no
theorem tSet_of {i : Nat} {f : Ev → R} {E : Ends} (q : tSv K F0 H0 Ψ (setG i f) E σ H) : tAsg (tV K F0 H0 Ψ f) (gName i) E σ H := by
  obtain ⟨F, ev, fi, m⟩ := q
  refine ⟨F, ev, fi, ?_⟩
  unfold setG at m
  cases h1 : f ev with
  | no => rw [h1] at m; exact m
  | ex C => rw [h1] at m; exact m
  | ok k d =>
    rw [h1] at m
    intro F1 x H1 p
    cases k with
    | bo => exact m.elim
    | fz => exact m F1 H1 _ p.st.up (fi.set p (by simp))
    | ow => exact m F1 H1 _ p.st.up (fi.set p (by simp))
noncomputable def asgG (b : B1) (f : Ev → R) (ev : Ev) : Fl := match f ev with
  | .ok .bo _ => .no
  | .ok _ d => match b d ev with
    | some ev' => .nx ev'
    | none => .no
  | .ex C => .ex C
  | .no => .no
theorem tAsg_of {b : B1} {f : Ev → R} {E : Ends} (q : tSv K F0 H0 Ψ (asgG b f) E σ H) : tAsg (tV K F0 H0 Ψ f) (gV K F0 H0 b) E σ H := by
  obtain ⟨F, ev, fi, m⟩ := q
  refine ⟨F, ev, fi, ?_⟩
  unfold asgG at m
  cases h1 : f ev with
  | no => rw [h1] at m; exact m
  | ex C => rw [h1] at m; exact m
  | ok k d =>
    rw [h1] at m
    intro F1 x H1 p
    have go : ∀ F2, Post K F H .fz d F2 x H1 → FlowTo K F0 H0 Ψ F E (match b d ev with
      | some ev' => .nx ev'
      | none => .no) → gV K F0 H0 b x σ H1 E.nx := fun F2 p2 m => by
      cases q : b d ev with
      | none => rw [q] at m; exact m.elim
      | some ev' =>
        rw [q] at m
        exact ⟨F2, ev, d, ev', fi.later p2.st, p2.val, q, fun H' σ' hH fi' => by subst hH; exact m F2 _ σ' p2.st.up fi'⟩
    cases k with
    | bo => exact m.elim
    | fz => exact go F1 p m
    | ow => obtain ⟨F2, p2⟩ := p.frz; exact go F2 p2 m
noncomputable def frzEv (i : Nat) (ev : Ev) : Ev := match ev[i]? with
  | some (some (.ow, d)) => ev.set i (some (.fz, d))
  | _ => ev
theorem FI.frz (i : Nat) (f : FI K F0 H0 F H ev σ) : ∃ F', Same F F' ∧ FI K F0 H0 F' H (frzEv i ev) σ := by
  unfold frzEv
  split
  · rename_i d e
    obtain ⟨_, v, ev1, hv⟩ := f.at_ i _ _ e
    obtain ⟨a, rfl, h1, h2, h3⟩ := hv
    obtain ⟨o, ho⟩ := h3.some
    have hi : i < σ.length := (List.getElem?_eq_some_iff.mp ev1).1
    have hie : i < ev.length := by rw [f.len]; exact hi
    have up : Same F (upd F a o) := fun b u e => by
      rw [upd_ne]; exact e
      rintro rfl; rw [h2] at e; cases e
    have ne : ∀ {m : Nat} {x : D}, (ev.set i (some (Kd.fz, d)))[m]? = some (some (.ow, x)) → i ≠ m ∧ ev[m]? = some (some (.ow, x)) := fun {m x} q => by
      by_cases hm : i = m
      · subst hm; rw [List.getElem?_set_self hie] at q; cases q
      · rw [List.getElem?_set_ne hm] at q; exact ⟨hm, q⟩
    refine ⟨upd F a o, up, ⟨f.st.up.trans up, fun b u q => ?_, f.st.keep, fun b u q => ?_⟩, fun j k d' q => ?_, fun j l d1 d2 hjl e1 e2 => ?_, by simpa using f.len⟩
    · by_cases hb : b = a
      · subst hb; rw [upd_same] at q; cases q; exact ho
      · rw [upd_ne hb] at q; exact f.sub _ _ q
    · by_cases hb : b = a
      · subst hb; exact .inr h1
      · rw [upd_ne hb] at q; exact f.st.new _ _ q
    · by_cases hj : i = j
      · subst hj
        rw [List.getElem?_set_self hie] at q
        cases q
        exact ⟨by simp, _, ev1, h3.rep up fun o' e => by rw [ho] at e; cases e; exact upd_same⟩
      · rw [List.getElem?_set_ne hj] at q
        obtain ⟨n, u, e3, hu⟩ := f.at_ j k d' q
        refine ⟨n, u, e3, ?_⟩
        cases k with
        | bo => exact absurd rfl n
        | fz => exact Rep.mono up hu
        | ow =>
          obtain ⟨b, rfl, g1, g2, g3⟩ := hu
          have hba : b ≠ a := by
            rintro rfl
            exact f.apart i j d d' hj e q (by rw [ev1, e3])
          exact ⟨b, rfl, g1, by rw [upd_ne hba]; exact g2, g3.mono up fun o e => e⟩
    · exact f.apart j l d1 d2 hjl (ne e1).2 (ne e2).2
  · exact ⟨F, .refl _, f⟩
end
end L3
set_option linter.all false
set_option maxRecDepth 100000
namespace L3
open PySem L2
inductive RI where | ok (ds : List D) | ex (C : Addr) | no
structure Yields (K : PySem.W.Frag) (F : Hp) (J : It) (ds : List D) : Prop where
  go : ∀ (i : Nat) H, Same F H → i < ds.length → J.go i H
  stop : ∀ (i : Nat) H, Same F H → ds.length ≤ i → J.stop i H
  yld : ∀ (i : Nat) F1 H x H', Same F F1 → Same F1 H → i < ds.length → J.yld i H x H' → ∃ F2 d, Step F1 H F2 H' ∧ ds[i]? = some d ∧ Rep K F2 d x
noncomputable def tVI (K : PySem.W.Frag) (F0 H0 : Hp) (Ψ : Psi) (f : Ev → RI) : TI := fun σ H R => ∃ F ev, FI K F0 H0 F H ev σ ∧ match f ev with
  | .ok ds => ∀ F' H' J, Step F H F' H' → Yields K F' J ds → R J H'
  | .ex C => ∀ F' H', Step F0 H0 F' H' → Ψ C H'
  | .no => False
noncomputable def VI (X : Cx) (F0 H0 : Hp) (Ψ : Psi) (tg e : Expr) (f : Ev → RI) : Prop := PI X tg e (tVI X.K F0 H0 Ψ f)
noncomputable def forE (b : B1) (body : Ev → Fl) : List D → Ev → Fl
  | [], ev => .nx ev
  | d :: ds, ev => match b d ev with
    | none => .no
    | some ev1 => match body ev1 with
      | .nx ev2 => forE b body ds ev2
      | .ct ev2 => forE b body ds ev2
      | .bk ev2 => .nx ev2
      | r => r
noncomputable def forG (f : Ev → RI) (b : B1) (body : Ev → Fl) (ev : Ev) : Fl := match f ev with
  | .ok ds => forE b body ds ev
  | .ex C => .ex C
  | .no => .no
section
variable {X : Cx} {K : PySem.W.Frag} {F0 H0 F H F' H' : Hp} {Ψ : Psi} {σ : St} {ev : Ev}
theorem tFor_of {f : Ev → RI} {b : B1} {body : Ev → Fl} {E : Ends} (q : tSv K F0 H0 Ψ (forG f b body) E σ H) : tFor (tVI K F0 H0 Ψ f) (gV K F0 H0 b) (tSv K F0 H0 Ψ body) E σ H := by
  obtain ⟨F, ev, fi, m⟩ := q
  refine ⟨F, ev, fi, ?_⟩
  unfold forG at m
  cases h1 : f ev with
  | no => rw [h1] at m; exact m
  | ex C => rw [h1] at m; exact m
  | ok ds =>
    rw [h1] at m
    intro F1 H1 J s y
    refine ⟨fun i m σ H => m = ds.length - i ∧ i ≤ ds.length ∧ ∃ F ev, FI K F0 H0 F H ev σ ∧ Same F1 F ∧ FlowTo K F0 H0 Ψ F E (forE b body (ds.drop i) ev),
      ⟨ds.length, by simp, Nat.zero_le _, F1, ev, fi.later s, .refl _, FlowTo.mono m s.up⟩, ?_⟩
    rintro i m σ H ⟨rfl, hi, F, ev, fi, up, fl⟩
    have sH : Same F1 H := up.trans fi.sub
    by_cases hlt : i < ds.length
    · refine .inr ⟨y.go i H sH hlt, fun σ' H' => ∃ F ev, FI K F0 H0 F H' ev σ' ∧ Same F1 F ∧ FlowTo K F0 H0 Ψ F E (forE b body (ds.drop (i + 1)) ev), fun σ' H' n => ⟨ds.length - (i + 1), by omega, rfl, hlt, n⟩, fun x H' yl => ?_⟩
      obtain ⟨F2, d, s2, ed, r⟩ := y.yld i F H x H' up fi.sub hlt yl
      have e : ds.drop i = d :: ds.drop (i + 1) := by
        obtain ⟨h, e'⟩ := List.getElem?_eq_some_iff.mp ed
        rw [← e']
        exact List.drop_eq_getElem_cons h
      rw [e] at fl
      simp only [forE] at fl
      cases q1 : b d ev with
      | none => rw [q1] at fl; exact fl.elim
      | some ev1 =>
        rw [q1] at fl
        dsimp only at fl
        refine ⟨F2, ev, d, ev1, fi.later s2, r, q1, fun H'' σ' hH fi' => ?_⟩
        subst hH
        refine ⟨F2, ev1, fi', ?_⟩
        have fl2 := FlowTo.mono fl s2.up
        cases q2 : body ev1 with
        | nx ev2 => rw [q2] at fl2; exact fun F' H' σ' s' fi'' => ⟨F', ev2, fi'', (up.trans s2.up).trans s', FlowTo.mono fl2 s'⟩
        | ct ev2 => rw [q2] at fl2; exact fun F' H' σ' s' fi'' => ⟨F', ev2, fi'', (up.trans s2.up).trans s', FlowTo.mono fl2 s'⟩
        | bk ev2 => rw [q2] at fl2; exact fl2
        | rt k d => rw [q2] at fl2; exact fl2
        | ex C => rw [q2] at fl2; exact fl2
        | no => rw [q2] at fl2; exact fl2
    · have e : i = ds.length := by omega
      subst e
      rw [List.drop_length] at fl
      exact .inl ⟨y.stop _ H sH (Nat.le_refl _), fl F H σ (.refl _) fi⟩

noncomputable def itR : R → RI
  | .ok .bo _ => .no
  | .ok _ (.lst ds) => .ok ds
  | .ok _ (.scr ds) => .ok ds
  | .ex C => .ex C
  | _ => .no
theorem yields_list {a : Addr} {vs : List V} {ds : List D} (h : SqL K F a vs) (r : Reps K F ds vs) : Yields K F (Itl K a) ds where
  go := fun i H s hi => ⟨vs, vs[i]'(by rw [← r.length]; exact hi), Same.seq s h, by simp [← r.length, hi]⟩
  stop := fun i H s hi => ⟨vs, Same.seq s h, by rw [← r.length]; exact hi⟩
  yld := fun i F1 H x H' s1 s2 hi y => by
    obtain ⟨rfl, y⟩ := y
    have e := y vs (Same.seq (s1.trans s2) h)
    obtain ⟨d, ed⟩ : ∃ d, ds[i]? = some d := ⟨ds[i], by simp [hi]⟩
    obtain ⟨v, ev, rv⟩ := r.get ed
    rw [e] at ev
    cases ev
    exact ⟨F1, d, .refl s2, ed, rv.mono s1⟩
noncomputable def rangeD (lo : Int) (n : Nat) : List D := (List.range n).map fun (i : Nat) => .int (lo + i)
theorem yields_range {lo : Int} {n : Nat} : Yields K F (Itr lo n) (rangeD lo n) where
  go := fun i H s hi => by show i < n; simpa [rangeD] using hi
  stop := fun i H s hi => by show n ≤ i; simpa [rangeD] using hi
  yld := fun i F1 H x H' s1 s2 hi y => by
    obtain ⟨rfl, rfl⟩ := y
    have hi : i < n := by simpa [rangeD] using hi
    exact ⟨F1, .int (lo + i), .refl s2, by simp [rangeD, hi], by rw [Rep]⟩
theorem iList_of {f : Ev → R} {Q : It → Hp → Prop} (h : tVI K F0 H0 Ψ (fun ev => itR (f ev)) σ H Q) : iList K (tV K F0 H0 Ψ f) σ H Q := by
  obtain ⟨F, ev, fi, m⟩ := h
  dsimp only at m
  refine ⟨F, ev, fi, ?_⟩
  cases h1 : f ev with
  | no => rw [h1] at m; exact m
  | ex C => rw [h1] at m; exact m
  | ok k d =>
    rw [h1] at m
    intro F1 v H1 p
    have go : ∀ F2, Post K F H .fz d F2 v H1 → (∀ ds, itR (.ok .fz d) = .ok ds → ∀ F' H' J, Step F H F' H' → Yields K F' J ds → Q J H') → (∀ ds, d = .lst ds ∨ d = .scr ds → ∃ a, v = .ref a ∧ (∃ xs, SqL K H1 a xs) ∧ Q (Itl K a) H1) := fun F2 p2 m ds hd => by
      rcases hd with rfl | rfl
      · have r := p2.val
        rw [Val, Rep] at r
        obtain ⟨a, vs, e1, e2, e3⟩ := r
        exact ⟨a, e1, ⟨vs, SqL.of (p2.st.sub _ _ e2)⟩, m ds rfl F2 H1 _ p2.st (yields_list (SqL.of e2) e3)⟩
      · have r := p2.val
        rw [Val, Rep] at r
        obtain ⟨a, vs, e1, e2, e3⟩ := r
        exact ⟨a, e1, ⟨vs, Same.seq p2.st.sub e2⟩, m ds rfl F2 H1 _ p2.st (yields_list e2 e3)⟩
    cases k with
    | bo => cases d <;> exact m.elim
    | fz =>
      cases d with
      | lst ds => exact go F1 p (fun ds' e => by cases e; exact m) ds (.inl rfl)
      | scr ds => exact go F1 p (fun ds' e => by cases e; exact m) ds (.inr rfl)
      | _ => exact m.elim
    | ow =>
      obtain ⟨F2, p2⟩ := p.frz
      cases d with
      | lst ds => exact go F2 p2 (fun ds' e => by cases e; exact m) ds (.inl rfl)
      | scr ds => exact go F2 p2 (fun ds' e => by cases e; exact m) ds (.inr rfl)
      | _ => exact m.elim
noncomputable def rng1R : RA → RI
  | .ok [(_, .int j)] => if -(2 ^ 62) ≤ j ∧ j < 2 ^ 62 then .ok (rangeD 0 j.toNat) else .no
  | .ex C => .ex C
  | _ => .no
theorem iRng1_of {f : Ev → RA} {Q : It → Hp → Prop} (h : tVI K F0 H0 Ψ (fun ev => rng1R (f ev)) σ H Q) : iRng1 (tVA K F0 H0 Ψ f) σ H Q := by
  obtain ⟨F, ev, fi, m⟩ := h
  dsimp only at m
  refine ⟨F, ev, fi, ?_⟩
  unfold rng1R at m
  cases h1 : f ev with
  | no => rw [h1] at m; exact m
  | ex C => rw [h1] at m; exact m
  | ok l =>
    rw [h1] at m
    intro F1 vs H1 s va
    split at m
    · rename_i ds hm
      split at hm
      · rename_i k j he
        cases he
        split at hm
        · rename_i hb
          cases hm
          obtain ⟨v, r, rfl, _, hv, hr⟩ := va
          obtain rfl : r = [] := hr
          exact ⟨j, by rw [hv.rd.int], hb.1, hb.2, m F1 H1 _ s yields_range⟩
        · cases hm
      · rename_i he; cases he
      · cases hm
    · rename_i C hm
      split at hm
      · split at hm <;> cases hm
      · rename_i he; cases he
      · cases hm
    · exact m.elim
noncomputable def whlE (c : Ev → R) (body : Ev → Fl) : Nat → Ev → Fl
  | 0, _ => .no
  | n + 1, ev => match c ev with
    | .ok _ (.bl b) => if b then (match body ev with
      | .nx ev2 => whlE c body n ev2
      | .ct ev2 => whlE c body n ev2
      | .bk ev2 => .nx ev2
      | r => r) else .nx ev
    | .ex C => .ex C
    | _ => .no
theorem tWhile_of {n : Nat} {c : Ev → R} {body : Ev → Fl} {E : Ends} (q : tSv K F0 H0 Ψ (whlE c body n) E σ H) : tWhile (tVT K F0 H0 Ψ c) (tSv K F0 H0 Ψ body) E σ H := by
  obtain ⟨F, ev, fi, m⟩ := q
  refine ⟨fun m σ H => ∃ F ev, FI K F0 H0 F H ev σ ∧ FlowTo K F0 H0 Ψ F E (whlE c body m ev), ⟨n, F, ev, fi, m⟩, ?_⟩
  rintro n σ H ⟨F, ev, fi, m⟩
  refine ⟨F, ev, fi, ?_⟩
  cases n with
  | zero => exact m.elim
  | succ n =>
    simp only [whlE] at m
    cases h1 : c ev with
    | no => rw [h1] at m; exact m
    | ex C => rw [h1] at m; exact m
    | ok k d =>
      rw [h1] at m
      cases d with
      | bl b =>
        intro F1 H1 p
        cases b with
        | false =>
          rw [if_neg Bool.false_ne_true]
          simp only [Bool.false_eq_true, if_false] at m
          exact m F1 H1 σ p.up (fi.later p)
        | true =>
          rw [if_pos rfl]
          simp only [if_true] at m
          refine ⟨fun σ' H' => ∃ F ev, FI K F0 H0 F H' ev σ' ∧ FlowTo K F0 H0 Ψ F E (whlE c body n ev), fun σ' H' h => ⟨n, Nat.lt_succ_self _, h⟩, F1, ev, fi.later p, ?_⟩
          have m2 := FlowTo.mono m p.up
          cases q2 : body ev with
          | nx ev2 => rw [q2] at m2; exact fun F' H' σ' s' fi'' => ⟨F', ev2, fi'', FlowTo.mono m2 s'⟩
          | ct ev2 => rw [q2] at m2; exact fun F' H' σ' s' fi'' => ⟨F', ev2, fi'', FlowTo.mono m2 s'⟩
          | bk ev2 => rw [q2] at m2; exact m2
          | rt k d => rw [q2] at m2; exact m2
          | ex C => rw [q2] at m2; exact m2
          | no => rw [q2] at m2; exact m2
      | _ => exact m.elim

theorem FI.mut {i : Nat} {d d' : D} {a : Addr} {o : HO} (f : FI K F0 H0 F H ev σ) (e : ev[i]? = some (some (.ow, d))) (hs : σ[i]? = some (some (.ref a))) (c : ∀ H2, H2 a = some o → Cell K F H2 a d') :
    FI K F0 H0 F (upd H a o) (ev.set i (some (.ow, d'))) σ := by
  obtain ⟨_, v, e1, b, hb, h1, h2, h3⟩ := f.at_ i _ _ e
  rw [hs] at e1
  have : V.ref a = v := by simpa using e1
  subst this
  cases hb
  have hie : i < ev.length := (List.getElem?_eq_some_iff.mp e).1
  have ne : ∀ {G : Hp}, G a = none → Same G H → Same G (upd H a o) := fun {G} n s b u q => by
    rw [upd_ne]; exact s b u q
    rintro rfl; rw [n] at q; cases q
  have own : ∀ {m : Nat} {x : D}, (ev.set i (some (Kd.ow, d')))[m]? = some (some (.ow, x)) → ∃ y, ev[m]? = some (some (.ow, y)) := fun {m x} q => by
    by_cases hm : i = m
    · subst hm; exact ⟨d, e⟩
    · rw [List.getElem?_set_ne hm] at q; exact ⟨x, q⟩
  refine ⟨⟨f.st.up, ne h2 f.sub, ne h1 f.st.keep, f.st.new⟩, fun j k d2 q => ?_, fun j l d1 d2 hjl e1 e2 => ?_, by simpa using f.len⟩
  · by_cases hj : i = j
    · subst hj
      rw [List.getElem?_set_self hie] at q
      cases q
      exact ⟨by simp, _, hs, a, rfl, h1, h2, c _ upd_same⟩
    · rw [List.getElem?_set_ne hj] at q
      obtain ⟨n, u, e3, hu⟩ := f.at_ j k d2 q
      refine ⟨n, u, e3, ?_⟩
      cases k with
      | bo => exact absurd rfl n
      | fz => exact hu
      | ow =>
        obtain ⟨b, rfl, g1, g2, g3⟩ := hu
        have hba : b ≠ a := by
          rintro rfl
          exact f.apart i j d d2 hj e q (by rw [hs, e3])
        exact ⟨b, rfl, g1, g2, g3.mono (.refl _) fun o' z => by rw [upd_ne hba]; exact z⟩
  · obtain ⟨y1, z1⟩ := own e1
    obtain ⟨y2, z2⟩ := own e2
    exact f.apart j l y1 y2 hjl z1 z2
end
end L3
set_option Elab.async false
set_option linter.all false
set_option maxRecDepth 100000
namespace L3
open PySem L2
noncomputable def addD : G2
  | .int i, .int j => some (.fz, .int (i + j))
  | .lst xs, .lst ys => if xs.length + ys.length ≤ LIM then some (.ow, .lst (xs ++ ys)) else none
  | .str x, .str y => if x.length + y.length ≤ LIM then some (.fz, .str (x ++ y)) else none
  | _, _ => none
noncomputable def subD : G2
  | .int i, .int j => some (.fz, .int (i - j))
  | _, _ => none
noncomputable def mulL : G2
  | .int i, .int j => if (-(2 ^ 64) < i ∧ i < 2 ^ 64) ∨ (-(2 ^ 64) < j ∧ j < 2 ^ 64) then some (.fz, .int (i * j)) else none
  | .lst xs, .int k => if -(2 ^ 63) ≤ k ∧ k < 2 ^ 63 ∧ xs.length * k.toNat ≤ LIM then some (.ow, .lst (List.replicate k.toNat xs).flatten) else none
  | _, _ => none
noncomputable def fdivD : G2
  | .int i, .int j => if 0 < j ∧ j < 2 ^ 200 then some (.fz, .int (i / j)) else none
  | _, _ => none
noncomputable def modD : G2
  | .int i, .int j => if 0 < j then some (.fz, .int (i % j)) else none
  | _, _ => none
noncomputable def powD : G2
  | .int i, .int j => if 0 ≤ j ∧ j ≤ 1000000 ∧ i.natAbs < 2 ^ 64 then some (.fz, .int (i ^ j.toNat)) else none
  | _, _ => none
noncomputable def ltD : G2
  | .int i, .int j => some (.fz, .bl (decide (i < j)))
  | _, _ => none
noncomputable def leD : G2
  | .int i, .int j => some (.fz, .bl (decide (i ≤ j)))
  | _, _ => none
noncomputable def gtD : G2
  | .int i, .int j => some (.fz, .bl (decide (j < i)))
  | _, _ => none
noncomputable def geD : G2
  | .int i, .int j => some (.fz, .bl (decide (j ≤ i)))
  | _, _ => none
noncomputable def isND : G2
  | .non, .non => some (.fz, .bl true)
  | _, .non => some (.fz, .bl false)
  | _, _ => none
noncomputable def notND : G2
  | .non, .non => some (.fz, .bl false)
  | _, .non => some (.fz, .bl true)
  | _, _ => none
noncomputable def idxL : G2
  | .lst xs, .int i => (atI xs i).map fun d => (.fz, d)
  | .scr xs, .int i => (atI xs i).map fun d => (.fz, d)
  | .tup xs, .int i => (atI xs i).map fun d => (.fz, d)
  | _, _ => none

section
variable {K : PySem.W.Frag} {X : Cx}
noncomputable abbrev rAdd3 : R2 := fun x y H Q => rI0 (fun i j => .int (i + j)) x y H Q ∨ (rCat x y H Q ∨ ∃ i j, x = .str i ∧ y = .str j ∧ i.length + j.length ≤ sizeLine ∧ Q (.str (i ++ j)) H)
theorem op_add3 : OpR X (binaryOp .Add) rAdd3 := op_add.or (op_cat.or op_add_str)
theorem lim_le {n : Nat} (h : n ≤ LIM) : n ≤ sizeLine := Nat.le_trans h sizeLine_ge
theorem ok_add : OkOp K rAdd3 addD := by
  intro F H dx dy x y k d Q s rx ry e q
  unfold addD at e
  split at e <;> first | (cases e; done) | skip
  · rename_i i j
    cases e
    exact .inl ⟨i, j, rx.int, ry.int, q F _ H (.pure (.refl s) (by rw [Rep]))⟩
  rotate_left
  · rename_i i j
    split at e
    · rename_i hl
      cases e
      exact .inr (.inr ⟨i, j, rx.str, ry.str, lim_le hl, q F _ H (.pure (.refl s) (by rw [Rep]))⟩)
    · cases e
  · rename_i xs ys
    split at e
    · rename_i hl
      cases e
      obtain ⟨a, vs, rfl, h1, h2⟩ := rx.lst s
      obtain ⟨b, us, rfl, g1, g2⟩ := ry.lst s
      refine .inr (.inl ⟨a, b, vs, us, rfl, rfl, h1, g1, by rw [← h2.length, ← g2.length]; exact lim_le hl, fun p hp => ?_⟩)
      exact q F _ _ (Post.own (.refl s) hp fun H2 e => ⟨_, e, h2.app g2⟩)
    · cases e
theorem ok_sub : OkOp K (rI0 fun i j => .int (i - j)) subD := by
  intro F H dx dy x y k d Q s rx ry e q
  unfold subD at e
  split at e <;> first | (cases e; done) | skip
  rename_i i j
  cases e
  exact ⟨i, j, rx.int, ry.int, q F _ H (.pure (.refl s) (by rw [Rep]))⟩
noncomputable abbrev rMul2 : R2 := fun x y H Q => rI CMul (fun i j => .int (i * j)) x y H Q ∨ rRep x y H Q
theorem op_mul2 : OpR X (binaryOp .Mult) rMul2 := op_mul.or op_rep
theorem ok_mulL : OkOp K rMul2 mulL := by
  intro F H dx dy x y k d Q s rx ry e q
  unfold mulL at e
  split at e <;> first | (cases e; done) | skip
  · rename_i i j
    split at e
    · rename_i hc
      cases e
      exact .inl ⟨i, j, rx.int, ry.int, hc, q F _ H (.pure (.refl s) (by rw [Rep]))⟩
    · cases e
  · rename_i xs j
    split at e
    · rename_i hc
      cases e
      obtain ⟨a, vs, rfl, h1, h2⟩ := rx.lst s
      refine .inr ⟨a, j, vs, rfl, ry.int, h1, hc.1, hc.2.1, by rw [← h2.length]; exact lim_le hc.2.2, fun p hp => ?_⟩
      exact q F _ _ (Post.own (.refl s) hp fun H2 e => ⟨_, e, h2.rep _⟩)
    · cases e
noncomputable def CDivW (i j : Int) : Prop := 0 < j ∧ j < 2 ^ 200
theorem op_fdivW {X : Cx} : OpR X (binaryOp .FloorDiv) (rI CDivW fun i j => .int (i / j)) := opI fun i j _ _ _ _ _ hc q => by
  have h1 : (0 : Int) < j := hc.1
  have h2 : j < 2 ^ 200 := hc.2
  refine PyProof.Rows.floordiv_int (by omega) (by rw [Int.fdiv_eq_ediv_of_nonneg i (by omega)]; exact q) (.inl (PyProof.noPylong_of_log2 ?_))
  have h3 : j.natAbs < 2 ^ 200 := by omega
  have h4 : j.natAbs.log2 < 200 := (Nat.log2_lt (by omega)).2 h3
  omega
theorem ok_fdiv : OkOp K (rI CDivW fun i j => .int (i / j)) fdivD := by
  intro F H dx dy x y k d Q s rx ry e q
  unfold fdivD at e
  split at e <;> first | (cases e; done) | skip
  rename_i i j
  split at e
  · rename_i hc
    cases e
    exact ⟨i, j, rx.int, ry.int, hc, q F _ H (.pure (.refl s) (by rw [Rep]))⟩
  · cases e
theorem ok_mod : OkOp K (rI (fun _ j => 0 < j) fun i j => .int (i % j)) modD := by
  intro F H dx dy x y k d Q s rx ry e q
  unfold modD at e
  split at e <;> first | (cases e; done) | skip
  rename_i i j
  split at e
  · rename_i hc
    cases e
    exact ⟨i, j, rx.int, ry.int, hc, q F _ H (.pure (.refl s) (by rw [Rep]))⟩
  · cases e
theorem ok_pow : OkOp K (rI CPow fun i j => .int (i ^ j.toNat)) powD := by
  intro F H dx dy x y k d Q s rx ry e q
  unfold powD at e
  split at e <;> first | (cases e; done) | skip
  rename_i i j
  split at e
  · rename_i hc
    cases e
    exact ⟨i, j, rx.int, ry.int, hc, q F _ H (.pure (.refl s) (by rw [Rep]))⟩
  · cases e
theorem ok_lt : OkOp K (rI0 fun i j => .bl (decide (i < j))) ltD := by
  intro F H dx dy x y k d Q s rx ry e q
  unfold ltD at e
  split at e <;> first | (cases e; done) | skip
  rename_i i j
  cases e
  exact ⟨i, j, rx.int, ry.int, q F _ H (.pure (.refl s) (by rw [Rep]))⟩
theorem ok_le : OkOp K (rI0 fun i j => .bl (decide (i ≤ j))) leD := by
  intro F H dx dy x y k d Q s rx ry e q
  unfold leD at e
  split at e <;> first | (cases e; done) | skip
  rename_i i j
  cases e
  exact ⟨i, j, rx.int, ry.int, q F _ H (.pure (.refl s) (by rw [Rep]))⟩
theorem ok_gt : OkOp K (rI0 fun i j => .bl (decide (j < i))) gtD := by
  intro F H dx dy x y k d Q s rx ry e q
  unfold gtD at e
  split at e <;> first | (cases e; done) | skip
  rename_i i j
  cases e
  exact ⟨i, j, rx.int, ry.int, q F _ H (.pure (.refl s) (by rw [Rep]))⟩
theorem ok_ge : OkOp K (rI0 fun i j => .bl (decide (j ≤ i))) geD := by
  intro F H dx dy x y k d Q s rx ry e q
  unfold geD at e
  split at e <;> first | (cases e; done) | skip
  rename_i i j
  cases e
  exact ⟨i, j, rx.int, ry.int, q F _ H (.pure (.refl s) (by rw [Rep]))⟩
theorem RdV.isn {F H : Hp} {d : D} {v : V} (h : RdV K F H d v) : decide (v = .non) = (match d with | .non => true | _ => false) := by
  rcases h with h | ⟨a, rfl, h⟩
  · cases d <;> rw [Rep] at h
    all_goals first
      | (subst h; rfl)
      | (obtain ⟨a, vs, rfl, _⟩ := h; rfl)
      | (obtain ⟨a, C, dx, vs, rfl, _⟩ := h; rfl)
  · cases d <;> first | rfl | exact h.elim
theorem ok_isN : OkOp K (fun x y H Q => y = .non ∧ Q (.bl (decide (x = .non))) H) isND := by
  intro F H dx dy x y k d Q s rx ry e q
  have hn := rx.isn
  unfold isND at e
  split at e
  · cases e; exact ⟨ry.non, by rw [hn]; exact q F _ H (.pure (.refl s) (by rw [Rep]))⟩
  · rename_i h
    cases e
    refine ⟨ry.non, ?_⟩
    have : decide (x = .non) = false := by
      rw [hn]; split
      · exact (h rfl).elim
      · rfl
    rw [this]; exact q F _ H (.pure (.refl s) (by rw [Rep]))
  · cases e
theorem ok_notN : OkOp K (fun x y H Q => y = .non ∧ Q (.bl (!decide (x = .non))) H) notND := by
  intro F H dx dy x y k d Q s rx ry e q
  have hn := rx.isn
  unfold notND at e
  split at e
  · cases e; exact ⟨ry.non, by rw [hn]; exact q F _ H (.pure (.refl s) (by rw [Rep]; rfl))⟩
  · rename_i h
    cases e
    refine ⟨ry.non, ?_⟩
    have : decide (x = .non) = false := by
      rw [hn]; split
      · exact (h rfl).elim
      · rfl
    rw [this]; exact q F _ H (.pure (.refl s) (by rw [Rep]; rfl))
  · cases e
theorem Reps.atI {F : Hp} {ds : List D} {vs : List V} {i : Int} {d : D} (r : Reps K F ds vs) (e : atI ds i = some d) : ∃ v, atI vs i = some v ∧ Rep K F d v := by
  unfold L2.atI at e ⊢
  rw [← r.length]
  cases q : ixN ds.length i with
  | none => rw [q] at e; cases e
  | some j => rw [q] at e; exact r.get e
theorem ok_idxL : OkOp K (rIx K) idxL := by
  intro F H dx dy x y k d Q s rx ry e q
  unfold idxL at e
  split at e <;> first | (cases e; done) | skip
  rotate_right
  · rename_i xs i
    obtain ⟨a, vs, rfl, h1, h2⟩ := rx.tup s
    cases q1 : atI xs i with
    | none => rw [q1] at e; cases e
    | some z =>
      rw [q1] at e; cases e
      obtain ⟨v, e1, rv⟩ := h2.atI q1
      exact .inr (.inl ⟨a, vs, i, v, rfl, ry.int, SqT.of h1, e1, q F _ H (.pure (.refl s) rv)⟩)
  · rename_i xs i
    obtain ⟨a, vs, rfl, h1, h2⟩ := rx.lst s
    cases q1 : atI xs i with
    | none => rw [q1] at e; cases e
    | some z =>
      rw [q1] at e; cases e
      obtain ⟨v, e1, rv⟩ := h2.atI q1
      exact .inl ⟨a, vs, i, v, rfl, ry.int, SqL.of h1, e1, q F _ H (.pure (.refl s) rv)⟩
  · rename_i xs i
    obtain ⟨a, vs, rfl, h1, h2⟩ := rx.scr s
    cases q1 : atI xs i with
    | none => rw [q1] at e; cases e
    | some z =>
      rw [q1] at e; cases e
      obtain ⟨v, e1, rv⟩ := h2.atI q1
      exact .inl ⟨a, vs, i, v, rfl, ry.int, h1, e1, q F _ H (.pure (.refl s) rv)⟩
end
noncomputable def lenL : GN
  | [.lst xs] => some (.fz, .int xs.length)
  | [.scr xs] => some (.fz, .int xs.length)
  | [.tup xs] => some (.fz, .int xs.length)
  | _ => none
noncomputable def min2D : GN
  | [.int i, .int j] => some (.fz, .int (if j < i then j else i))
  | _ => none
noncomputable def max2D : GN
  | [.int i, .int j] => some (.fz, .int (if j > i then j else i))
  | _ => none
noncomputable def listD : GN
  | [.lst xs] => some (.ow, .lst xs)
  | [.scr xs] => some (.ow, .lst xs)
  | [.tup xs] => some (.ow, .lst xs)
  | _ => none
section
variable {K : PySem.W.Frag} {X : Cx}
theorem ok_lenL : OkCall K (fun xs H Q => ∃ p ys, xs = [.ref p] ∧ (SqL K H p ys ∨ SqT K H p ys) ∧ Q (.int ys.length) H) lenL := by
  intro F H ds vs k d Q s r e q
  unfold lenL at e
  split at e
  · obtain ⟨v, _, rfl, rx, rfl⟩ := r
    cases e
    obtain ⟨a, us, rfl, h1, h2⟩ := rx.lst s
    exact ⟨a, us, rfl, .inl (SqL.of h1), q F _ H (.pure (.refl s) (by rw [Rep, h2.length]))⟩
  · obtain ⟨v, _, rfl, rx, rfl⟩ := r
    cases e
    obtain ⟨a, us, rfl, h1, h2⟩ := rx.scr s
    exact ⟨a, us, rfl, .inl h1, q F _ H (.pure (.refl s) (by rw [Rep, h2.length]))⟩
  · obtain ⟨v, _, rfl, rx, rfl⟩ := r
    cases e
    obtain ⟨a, us, rfl, h1, h2⟩ := rx.tup s
    exact ⟨a, us, rfl, .inr (SqT.of h1), q F _ H (.pure (.refl s) (by rw [Rep, h2.length]))⟩
  · cases e
theorem ok_min2 : OkCall K (fun xs H Q => ∃ i j, xs = [.int i, .int j] ∧ Q (.int (if j < i then j else i)) H) min2D := by
  intro F H ds vs k d Q s r e q
  unfold min2D at e
  split at e
  · rename_i i j
    obtain ⟨v, _, rfl, rx, u, _, rfl, ry, rfl⟩ := r
    cases e
    exact ⟨i, j, by rw [rx.int, ry.int], q F _ H (.pure (.refl s) (by rw [Rep]))⟩
  · cases e
theorem ok_max2 : OkCall K (fun xs H Q => ∃ i j, xs = [.int i, .int j] ∧ Q (.int (if j > i then j else i)) H) max2D := by
  intro F H ds vs k d Q s r e q
  unfold max2D at e
  split at e
  · rename_i i j
    obtain ⟨v, _, rfl, rx, u, _, rfl, ry, rfl⟩ := r
    cases e
    exact ⟨i, j, by rw [rx.int, ry.int], q F _ H (.pure (.refl s) (by rw [Rep]))⟩
  · cases e
theorem ok_list : OkCall K (fun xs H Q => ∃ p ys, xs = [.ref p] ∧ (SqL K H p ys ∨ SqT K H p ys) ∧ ∀ l, H l = none → Q (.ref l) (upd H l (.lst ys))) listD := by
  intro F H ds vs k d Q s r e q
  unfold listD at e
  split at e
  · obtain ⟨v, _, rfl, rx, rfl⟩ := r
    cases e
    obtain ⟨a, us, rfl, h1, h2⟩ := rx.lst s
    exact ⟨a, us, rfl, .inl (SqL.of h1), fun l hl => q F _ _ (Post.own (.refl s) hl fun H2 e => ⟨_, e, h2⟩)⟩
  · obtain ⟨v, _, rfl, rx, rfl⟩ := r
    cases e
    obtain ⟨a, us, rfl, h1, h2⟩ := rx.scr s
    exact ⟨a, us, rfl, .inl h1, fun l hl => q F _ _ (Post.own (.refl s) hl fun H2 e => ⟨_, e, h2⟩)⟩
  · obtain ⟨v, _, rfl, rx, rfl⟩ := r
    cases e
    obtain ⟨a, us, rfl, h1, h2⟩ := rx.tup s
    exact ⟨a, us, rfl, .inr (SqT.of h1), fun l hl => q F _ _ (Post.own (.refl s) hl fun H2 e => ⟨_, e, h2⟩)⟩
  · cases e
end
end L3
set_option Elab.async false
set_option linter.all false
set_option maxRecDepth 100000
namespace L3
open PySem L2
noncomputable def eOp (g : G2) (f1 f2 : Ev → R) (ev : Ev) : R := op2 g (f1 ev) (f2 ev)
noncomputable def eAnd (f g : Ev → R) (ev : Ev) : R := andR (f ev) (g ev)
noncomputable def eOr (f g : Ev → R) (ev : Ev) : R := orR (f ev) (g ev)
noncomputable def eNot (f : Ev → R) (ev : Ev) : R := notR (f ev)
noncomputable def aNil (_ : Ev) : RA := .ok []
noncomputable def aCons (f : Ev → R) (fs : Ev → RA) (ev : Ev) : RA := consA (f ev) (fs ev)
noncomputable def eTup (fs : Ev → RA) (ev : Ev) : R := tupR (fs ev)
noncomputable def eLst (fs : Ev → RA) (ev : Ev) : R := lstR (fs ev)
noncomputable def eCall (g : GN) (fs : Ev → RA) (ev : Ev) : R := callR g (fs ev)
noncomputable def iLst (f : Ev → R) (ev : Ev) : RI := itR (f ev)
noncomputable def scalD : D → Bool
  | .non => true
  | .bl _ => true
  | .int _ => true
  | .str _ => true
  | _ => false
noncomputable def fnR (n : Nat) (φ : List D → R) : RA → R
  | .ok l => if l.length = n then (match allFz l with
    | some ds => match φ ds with
      | .ok .fz d => .ok .fz d
      | .ok .ow d => .ok .ow d
      | _ => .no
    | none => match φ (l.map (·.2)) with
      | .ok .bo _ => .no
      | .ok _ d => if scalD d then .ok .fz d else .no
      | _ => .no) else .no
  | .ex C => .ex C
  | .no => .no
noncomputable def eFn (n : Nat) (φ : List D → R) (fs : Ev → RA) (ev : Ev) : R := fnR n φ (fs ev)
noncomputable def ev0 (n : Nat) (ds : List D) : Ev := ds.map (fun d => some (.fz, d)) ++ List.replicate n none
noncomputable def runF (n : Nat) (g : Ev → Fl) (ds : List D) : R := match g (ev0 n ds) with
  | .rt .bo _ => .no
  | .rt k d => .ok k d
  | .nx _ => .ok .fz .non
  | .ex C => .ex C
  | _ => .no
noncomputable def appG (i : Nat) (f : Ev → R) (ev : Ev) : Fl := match ev[i]? with
  | some (some (.ow, .lst ds)) => match f ev with
    | .ok .bo _ => .no
    | .ok _ d => if ds.length < LIM then .nx (ev.set i (some (.ow, .lst (ds ++ [d])))) else .no
    | .ex C => .ex C
    | .no => .no
  | _ => .no
noncomputable def setLG (i : Nat) (f v : Ev → R) (ev : Ev) : Fl := match v ev with
  | .ok .bo _ => .no
  | .ok _ d => match ev[i]? with
    | some (some (.ow, .lst ds)) => match f ev with
      | .ok _ (.int k) => match ixN ds.length k with
        | some j => .nx (ev.set i (some (.ow, .lst (ds.set j d))))
        | none => .no
      | .ex C => .ex C
      | _ => .no
    | _ => .no
  | .ex C => .ex C
  | .no => .no
noncomputable def frzG (i : Nat) (g : Ev → Fl) (ev : Ev) : Fl := g (frzEv i ev)
section
variable {X : Cx} {F0 H0 : Hp} {Ψ : Psi} {a b c e : Expr} {es : List Expr} {f f1 f2 f3 : Ev → R} {fs : Ev → RA} {pos : Pos}
theorem v_var (i : Nat) {x : Str} (hN : X.N[i]? = some x := by rfl) (hv : Vis X.env.scope x := by first | exact Or.inl rfl | exact Or.inr (Or.inl rfl) | exact Or.inr (Or.inr rfl)) (hd : (x == ("__debug__" : Str)) = false := by decide)
    (hcd : (x == ("__classdict__" : Str)) = false := by decide) : VE X F0 H0 Ψ (.Name x pos) (varR i) := (pe_var hN hv hd hcd).mono fun _ _ _ h => tVar_of h
theorem v_int {i j} : VE X F0 H0 Ψ (.Constant (.int i) j pos) (conR (.int i)) := pe_int.mono fun _ _ _ h => tC_of (by rw [Rep]) h
theorem v_bl {i j} : VE X F0 H0 Ψ (.Constant (.bool i) j pos) (conR (.bl i)) := pe_bl.mono fun _ _ _ h => tC_of (by rw [Rep]) h
theorem v_non {j} : VE X F0 H0 Ψ (.Constant .none j pos) (conR .non) := pe_non.mono fun _ _ _ h => tC_of (by rw [Rep]) h
theorem v_str {i j} : VE X F0 H0 Ψ (.Constant (.str i) j pos) (conR (.str i)) := pe_str.mono fun _ _ _ h => tC_of (by rw [Rep]) h
theorem v_bin {op : Operator} {r : R2} {g : G2} (ho : OpR X (binaryOp op) r) (hg : OkOp X.K r g) (ha : VE X F0 H0 Ψ a f1) (hb : VE X F0 H0 Ψ b f2) : VE X F0 H0 Ψ (.BinOp a op b pos) (eOp g f1 f2) := (pe_op ho ha hb).mono fun _ _ _ h => tOp_of hg h
theorem v_add (ha : VE X F0 H0 Ψ a f1) (hb : VE X F0 H0 Ψ b f2) : VE X F0 H0 Ψ (.BinOp a .Add b pos) (eOp addD f1 f2) := v_bin op_add3 ok_add ha hb
theorem v_sub (ha : VE X F0 H0 Ψ a f1) (hb : VE X F0 H0 Ψ b f2) : VE X F0 H0 Ψ (.BinOp a .Sub b pos) (eOp subD f1 f2) := v_bin op_sub ok_sub ha hb
theorem v_fdiv (ha : VE X F0 H0 Ψ a f1) (hb : VE X F0 H0 Ψ b f2) : VE X F0 H0 Ψ (.BinOp a .FloorDiv b pos) (eOp fdivD f1 f2) := v_bin op_fdivW ok_fdiv ha hb
theorem v_mod (ha : VE X F0 H0 Ψ a f1) (hb : VE X F0 H0 Ψ b f2) : VE X F0 H0 Ψ (.BinOp a .Mod b pos) (eOp modD f1 f2) := v_bin op_mod ok_mod ha hb
theorem v_pow (ha : VE X F0 H0 Ψ a f1) (hb : VE X F0 H0 Ψ b f2) : VE X F0 H0 Ψ (.BinOp a .Pow b pos) (eOp powD f1 f2) := v_bin op_pow ok_pow ha hb
noncomputable def CmpOk (X : Cx) (op : CmpOp) (g : G2) : Prop := ∃ r : R2, OpR X (compareOp op) r ∧ OkOp X.K r g
theorem c_lt : CmpOk X .Lt ltD := ⟨_, op_lt, ok_lt⟩
theorem c_le : CmpOk X .LtE leD := ⟨_, op_le, ok_le⟩
theorem c_gt : CmpOk X .Gt gtD := ⟨_, op_gt, ok_gt⟩
theorem c_ge : CmpOk X .GtE geD := ⟨_, op_ge, ok_ge⟩
theorem c_isN : CmpOk X .Is isND := ⟨_, op_isN, ok_isN⟩
theorem c_notN : CmpOk X .IsNot notND := ⟨_, op_notN, ok_notN⟩
theorem v_cmp {op : CmpOp} {g : G2} (hc : CmpOk X op g) (ha : VE X F0 H0 Ψ a f1) (hb : VE X F0 H0 Ψ b f2) (hm : behindInMarks op b = false := by first | exact nomark _ | rfl) : VE X F0 H0 Ψ (.Compare a [op] [b] pos) (eOp g f1 f2) := let ⟨_, ho, hg⟩ := hc; (pe_cmpR ho ha hb hm).mono fun _ _ _ h => tOp_of hg h
theorem vt_cmp {op : CmpOp} {g : G2} (hc : CmpOk X op g) (ha : VE X F0 H0 Ψ a f1) (hb : VE X F0 H0 Ψ b f2) (hm : behindInMarks op b = false := by first | exact nomark _ | rfl) : VT X F0 H0 Ψ (.Compare a [op] [b] pos) (eOp g f1 f2) :=
  let ⟨_, ho, hg⟩ := hc; (pt_cmpR ho ha hb hm).mono fun σ H Q h => by
    obtain ⟨F, ev, fi, m⟩ := h
    exact tOp_of (K := X.K) (F0 := F0) (H0 := H0) (Ψ := Ψ) (f1 := f1) (f2 := f2) hg (Q := fun x H' => ∃ k, x = .bl k ∧ Q k H') (by
      refine ⟨F, ev, fi, ?_⟩
      show match eOp g f1 f2 ev with
        | .ok k d => ∀ F' v H', Post X.K F H k d F' v H' → ∃ k, v = .bl k ∧ Q k H'
        | .ex C => ∀ F' H', Step F0 H0 F' H' → Ψ C H'
        | .no => False
      cases q : eOp g f1 f2 ev with
      | no => rw [q] at m; exact m
      | ex C => rw [q] at m; exact m
      | ok k d =>
        rw [q] at m
        intro F' v H' p
        cases d with
        | bl b => exact ⟨b, p.val.rd.bl, m F' H' p.st⟩
        | _ => exact m.elim)
theorem vt_val (h : VE X F0 H0 Ψ e f) (he : ∀ whole, isTrue e X.env whole = (do let v ← whole; standAt e.pos; holding [v] (truthy v)) := by intro _; rfl) : VT X F0 H0 Ψ e f := (pt_val h he).mono fun _ _ _ q => tB_of q
theorem vw_and1 (h : VT X F0 H0 Ψ a f) : VW X F0 H0 Ψ (.BoolOp .And [a] pos) f := pw_and1 h
theorem vw_or1 (h : VT X F0 H0 Ψ a f) : VW X F0 H0 Ψ (.BoolOp .Or [a] pos) f := pw_or1 h
theorem vw_and {rest : List Expr} (ha : VT X F0 H0 Ψ a f1) (hb : VW X F0 H0 Ψ (.BoolOp .And (b :: rest) pos) f2) : VW X F0 H0 Ψ (.BoolOp .And (a :: b :: rest) pos) (eAnd f1 f2) := (pw_and ha hb).mono fun _ _ _ q => tAnd_of q
theorem vw_or {rest : List Expr} (ha : VT X F0 H0 Ψ a f1) (hb : VW X F0 H0 Ψ (.BoolOp .Or (b :: rest) pos) f2) : VW X F0 H0 Ψ (.BoolOp .Or (a :: b :: rest) pos) (eOr f1 f2) := (pw_or ha hb).mono fun _ _ _ q => tOr_of q
theorem vt_w (h : VW X F0 H0 Ψ e f) : VT X F0 H0 Ψ e f := PW.pt h
theorem vt_not (h : VT X F0 H0 Ψ a f) : VT X F0 H0 Ψ (.UnaryOp .Not a pos) (eNot f) := (pt_not h).mono fun _ _ _ q => tNot_of q
theorem v_one {op} (h : VE X F0 H0 Ψ a f) : VE X F0 H0 Ψ (.BoolOp op [a] pos) f := pe_one h
theorem v_and {rest : List Expr} (ha : VE X F0 H0 Ψ a f1) (hb : VE X F0 H0 Ψ (.BoolOp .And (b :: rest) pos) f2) : VE X F0 H0 Ψ (.BoolOp .And (a :: b :: rest) pos) (eAnd f1 f2) := (pe_and ha hb).mono fun _ _ _ q => tAndV_of q
theorem v_or {rest : List Expr} (ha : VE X F0 H0 Ψ a f1) (hb : VE X F0 H0 Ψ (.BoolOp .Or (b :: rest) pos) f2) : VE X F0 H0 Ψ (.BoolOp .Or (a :: b :: rest) pos) (eOr f1 f2) := (pe_or ha hb).mono fun _ _ _ q => tOrV_of q
theorem va_nil : VA X F0 H0 Ψ [] aNil := pa_nil.mono fun _ _ _ q => tNil_of q
theorem va_cons (ha : VE X F0 H0 Ψ e f) (hr : VA X F0 H0 Ψ es fs) (hs : starEach (e :: es) X.env = (false, eval e X.env) :: starEach es X.env := by rfl) : VA X F0 H0 Ψ (e :: es) (aCons f fs) := (pa_cons ha hr hs).mono fun _ _ _ q => tCons_of q
theorem v_tup {x1} (h : VA X F0 H0 Ψ es fs) : VE X F0 H0 Ψ (.Tuple es x1 pos) (eTup fs) := (pe_tup h).mono fun _ _ _ q => tTup_of q
theorem v_lst (h : VA X F0 H0 Ψ es fs) : VE X F0 H0 Ψ (.List es pos) (eLst fs) := (pe_lst h).mono fun _ _ _ q => tLst_of q
theorem v_callB {x : Str} {p : Pos} {id : String} {r : List V → Hp → VK → Prop} {g : GN} (hc : CallR X (.builtin id) r) (hg : OkCall X.K r g) (hm : X.mg x = none) (hv : bootBuiltins x = some (.builtin id)) (ha : VA X F0 H0 Ψ (e :: es) fs) (hgl : Gl X x := by rfl)
    (hn : x ≠ "__name__" := by decide) (hdb : (x == ("__debug__" : Str)) = false := by decide)
    (he : starEach (e :: es) X.env = (false, eval e X.env) :: starEach es X.env := by rfl) (hpl : (backTo pos (starEach es X.env)).any (·.1) = false := by rfl) : VE X F0 H0 Ψ (.Call (.Name x p) (e :: es) [] pos) (eCall g fs) := (pe_callB hc hgl hm hv ha hn hdb he hpl).mono fun _ _ _ q => tCB_of hg q
theorem v_callT {x : Str} {p : Pos} {T : String} {r : List V → Hp → VK → Prop} {g : GN} (hc : CallR X (.type T) r) (hg : OkCall X.K r g) (hm : X.mg x = none) (hv : bootBuiltins x = some (.type T)) (ha : VA X F0 H0 Ψ (e :: es) fs) (hgl : Gl X x := by rfl)
    (hn : x ≠ "__name__" := by decide) (hdb : (x == ("__debug__" : Str)) = false := by decide)
    (he : starEach (e :: es) X.env = (false, eval e X.env) :: starEach es X.env := by rfl) (hpl : (backTo pos (starEach es X.env)).any (·.1) = false := by rfl) : VE X F0 H0 Ψ (.Call (.Name x p) (e :: es) [] pos) (eCall g fs) := (pe_callTy hc hgl hm hv ha hn hdb he hpl).mono fun _ _ _ q => tCB_of hg q
theorem v_lenL {p : Pos} (hm : X.mg "len" = none) (ha : VA X F0 H0 Ψ [e] fs) (hgl : Gl X "len" := by rfl) (he : starEach [e] X.env = (false, eval e X.env) :: starEach [] X.env := by rfl) : VE X F0 H0 Ψ (.Call (.Name "len" p) [e] [] pos) (eCall lenL fs) := v_callB call_len_seq ok_lenL hm PySem.boot_len ha hgl (by decide) (by decide) he
theorem v_list {p : Pos} (hm : X.mg "list" = none) (ha : VA X F0 H0 Ψ [e] fs) (hgl : Gl X "list" := by rfl) (he : starEach [e] X.env = (false, eval e X.env) :: starEach [] X.env := by rfl) : VE X F0 H0 Ψ (.Call (.Name "list" p) [e] [] pos) (eCall listD fs) := v_callT call_list_of ok_list hm (by rfl) ha hgl (by decide) (by decide) he

variable {st : Stmt} {rest body orelse : List Stmt} {g h : Ev → Fl}
theorem vs_nil : VSs X F0 H0 Ψ [] .nx := pss_nil.mono fun _ _ _ q => tNext_of q
theorem vs_cons (h1 : VS X F0 H0 Ψ st g) (h2 : VSs X F0 H0 Ψ rest h) : VSs X F0 H0 Ψ (st :: rest) (seqG g h) := (pss_cons h1 h2).mono fun _ _ _ q => tSeq_of q
theorem vs_one (h1 : VS X F0 H0 Ψ st g) : VSs X F0 H0 Ψ [st] g := pss_one h1
theorem vs_continue : VS X F0 H0 Ψ (.Continue pos) .ct := ps_continue.mono fun _ _ _ q => tCont_of q
theorem vs_ret (he : VE X F0 H0 Ψ e f) : VS X F0 H0 Ψ (.Return (some e) pos) (retG f) := (ps_ret he).mono fun _ _ _ q => tRet_of q
theorem vs_retv (i : Nat) {x : Str} {p : Pos} (hN : X.N[i]? = some x := by rfl) (hv : Vis X.env.scope x := by first | exact Or.inl rfl | exact Or.inr (Or.inl rfl) | exact Or.inr (Or.inr rfl)) (hd : (x == ("__debug__" : Str)) = false := by decide)
    (hcd : (x == ("__classdict__" : Str)) = false := by decide) : VS X F0 H0 Ψ (.Return (some (.Name x p)) pos) (retVarG i) := (ps_ret (pe_var hN hv hd hcd)).mono fun _ _ _ q => tRetVar_of q
theorem vs_if (hc : VT X F0 H0 Ψ c f) (ha : VSs X F0 H0 Ψ body g) (hb : VSs X F0 H0 Ψ orelse h) : VS X F0 H0 Ψ (.If c body orelse pos) (ifG f g h) := (ps_if hc ha hb).mono fun _ _ _ q => tIfS_of q
theorem vs_set (i : Nat) {x : Str} {pos' : Pos} (hN : X.N.Nodup) (he : VE X F0 H0 Ψ e f) (hi : X.N[i]? = some x := by rfl) (hx : Loc X.env.scope x := by first | exact Or.inl rfl | exact Or.inr rfl) (hs : swapsWith e (some (.Name x pos')) pos.line X.env = pure false := by rfl)
    (hf : X.fn x = true ∨ X.env.scope.names.lookup x = some .local := by first | exact .inl rfl | exact .inr rfl) : VS X F0 H0 Ψ (.Assign [.Name x pos'] e pos) (setG i f) := (ps_set hN hi hx he hs hf).mono fun _ _ _ q => tSet_of q
noncomputable def VG (X : Cx) (F0 H0 : Hp) (t : Expr) (b : B1) : Prop := PG X t (gV X.K F0 H0 b)
noncomputable def VGs (X : Cx) (F0 H0 : Hp) (ts : List Expr) (b : BN) : Prop := PGs X ts (gVs X.K F0 H0 b)
theorem vg_name (i : Nat) {x : Str} (hN : X.N.Nodup) (hi : X.N[i]? = some x := by rfl) (hx : Loc X.env.scope x := by first | exact Or.inl rfl | exact Or.inr rfl)
    (hf : X.fn x = true ∨ X.env.scope.names.lookup x = some .local := by first | exact .inl rfl | exact .inr rfl) : VG X F0 H0 (.Name x pos) (bName i) := (pg_name hN hi hx hf).mono fun _ _ _ _ q => gName_of q
theorem vg_nil : VGs X F0 H0 [] bNil := pgs_nil.mono fun _ _ _ _ q => gNil_of q
theorem vg_cons {t : Expr} {ts : List Expr} {b1 : B1} {bn : BN} (h1 : VG X F0 H0 t b1) (h2 : VGs X F0 H0 ts bn) (hs : (assignEach (t :: ts) X.env).map (·.2) = assign t X.env :: (assignEach ts X.env).map (·.2) := by rfl) : VGs X F0 H0 (t :: ts) (bCons b1 bn) := (pgs_cons h1 h2 hs).mono fun _ _ _ _ q => gCons_of q
theorem vg_tup {ts : List Expr} {k n : Nat} {bn : BN} (hc : X.calm = true) (h : VGs X F0 H0 ts bn) (hn : (assignEach ts X.env).length = n := by rfl) (hst : (assignEach ts X.env).findIdx? (·.1) = none := by rfl) : VG X F0 H0 (.Tuple ts k pos) (bTup n bn) := (pg_tup hc h hn hst).mono fun _ _ _ _ q => gTup_of q
theorem vs_asg {t : Expr} {b1 : B1} (he : VE X F0 H0 Ψ e f) (hg : VG X F0 H0 t b1) (hs : swapsWithSole [t] e pos.line X.env = pure false := by rfl) (hw : swappedStores [t] e X.env = pure none := by rfl)
    (h1 : (assignEach [t] X.env).map (·.2) = [assign t X.env] := by rfl) : VS X F0 H0 Ψ (.Assign [t] e pos) (asgG b1 f) := (ps_asg he hg hs hw h1).mono fun _ _ _ q => tAsg_of q
variable {tg iter : Expr} {fi : Ev → RI}
theorem vi_list (h : VE X F0 H0 Ψ e f) : VI X F0 H0 Ψ tg e (iLst f) := (pi_list h).mono fun _ _ _ q => iList_of q
theorem vs_for {b1 : B1} (hp : PassesOwn (model X.prog X.w) X.A X.env X.xe) (hc : X.calm = true) (hi : VI X F0 H0 Ψ tg iter fi) (hg : VG X F0 H0 tg b1) (hb : VSs X F0 H0 Ψ body g) (hs : ∀ x, foldedSetIterable iter X.env x = pure x := by intro _; rfl) :
    VS X F0 H0 Ψ (.For tg iter body [] pos) (forG fi b1 g) := (ps_for hp hc hi hg hb hs).mono fun _ _ _ q => tFor_of q
theorem vs_while (n : Nat) (hp : PassesOwn (model X.prog X.w) X.A X.env X.xe) (hc : VT X F0 H0 Ψ c f) (hb : VSs X F0 H0 Ψ body g) : VS X F0 H0 Ψ (.While c body [] pos) (whlE f g n) := (ps_while hp hc hb).mono fun _ _ _ q => tWhile_of q
theorem vs_frz (i : Nat) {sts : List Stmt} (h : VSs X F0 H0 Ψ sts g) : VSs X F0 H0 Ψ sts (frzG i g) := h.mono fun E σ H q => by
  obtain ⟨F, ev, fi, m⟩ := q
  obtain ⟨F', s, fi'⟩ := fi.frz i
  exact ⟨F', frzEv i ev, fi', FlowTo.mono m s⟩
end
end L3
set_option Elab.async false
set_option linter.all false
set_option maxRecDepth 100000
namespace L3
open PySem L2
section
variable {X : Cx} {K : PySem.W.Frag} {F0 H0 F H F' H' : Hp} {Ψ : Psi} {σ : St} {ev : Ev}
theorem FI.ow {i : Nat} {ds : List D} (fi : FI K F0 H0 F H ev σ) (e : ev[i]? = some (some (.ow, .lst ds))) : ∃ a vs, σ[i]? = some (some (.ref a)) ∧ H a = some (.lst vs) ∧ Reps K F ds vs := by
  obtain ⟨_, v, e1, a, rfl, h1, h2, vs, h3, h4⟩ := fi.at_ i _ _ e
  exact ⟨a, vs, e1, h3, h4⟩
theorem tApp_of {i : Nat} {f : Ev → R} {E : Ends} (q : tSv K F0 H0 Ψ (appG i f) E σ H) : tDrop (tBM K "list" rAppend (tVar i) (tCons (tV K F0 H0 Ψ f) tNil)) E σ H := by
  obtain ⟨F, ev, fi, m⟩ := q
  unfold appG at m
  split at m
  · rename_i ds e
    obtain ⟨a, vs, e1, h1, h2⟩ := fi.ow e
    refine ⟨.ref a, e1, .inl ⟨rfl, vs, SqL.of h1⟩, F, ev, fi, ?_⟩
    cases h3 : f ev with
    | no => rw [h3] at m; exact m
    | ex C => rw [h3] at m; exact m
    | ok k d =>
      rw [h3] at m
      intro F1 y H1 p
      have go : ∀ F2, Post K F H .fz d F2 y H1 → FlowTo K F0 H0 Ψ F E (if ds.length < LIM then .nx (ev.set i (some (.ow, .lst (ds ++ [d])))) else .no) → rAppend (.ref a) [y] H1 fun _ H1 => E.nx σ H1 := fun F2 p2 m => by
        by_cases hl : ds.length < LIM
        · rw [if_pos hl] at m
          refine ⟨a, vs, y, rfl, rfl, p2.st.keep _ _ h1, by rw [← h2.length]; exact Nat.lt_of_lt_of_le hl sizeLine_ge, ?_⟩
          exact m F2 _ σ p2.st.up ((fi.later p2.st).mut e e1 fun H2 z => ⟨_, z, (h2.mono p2.st.up).app (.cons p2.val .nil)⟩)
        · rw [if_neg hl] at m; exact m.elim
      cases k with
      | bo => exact m.elim
      | fz => exact go F1 p m
      | ow => obtain ⟨F2, p2⟩ := p.frz; exact go F2 p2 m
  · exact m.elim
theorem tSetLIt_of {i : Nat} {f v : Ev → R} {E : Ends} (q : tSv K F0 H0 Ψ (setLG i f v) E σ H) : tAsg (tV K F0 H0 Ψ v) (gSub (tVar i) (tV K F0 H0 Ψ f) rSetL) E σ H := by
  obtain ⟨F, ev, fi, m⟩ := q
  refine ⟨F, ev, fi, ?_⟩
  unfold setLG at m
  cases h3 : v ev with
  | no => rw [h3] at m; exact m
  | ex C => rw [h3] at m; exact m
  | ok k d =>
    rw [h3] at m
    intro F1 y H1 p
    have go : ∀ F2, Post K F H .fz d F2 y H1 → FlowTo K F0 H0 Ψ F E (match ev[i]? with
      | some (some (.ow, .lst ds)) => match f ev with
        | .ok _ (.int k) => match ixN ds.length k with
          | some j => .nx (ev.set i (some (.ow, .lst (ds.set j d))))
          | none => .no
        | .ex C => .ex C
        | _ => .no
      | _ => .no) → gSub (tVar i) (tV K F0 H0 Ψ f) rSetL y σ H1 E.nx := fun F2 p2 m => by
      split at m
      · rename_i ds e
        obtain ⟨a, vs, e1, h1, h2⟩ := fi.ow e
        refine ⟨.ref a, e1, F2, ev, fi.later p2.st, ?_⟩
        cases h4 : f ev with
        | no => rw [h4] at m; exact m
        | ex C => rw [h4] at m; exact m
        | ok k' d' =>
          rw [h4] at m
          intro F3 z H3 p3
          cases d' with
          | int n =>
            dsimp only at m
            cases h5 : ixN ds.length n with
            | none => rw [h5] at m; exact m.elim
            | some j =>
              rw [h5] at m
              have st := p2.st.trans p3.st
              refine ⟨a, vs, n, j, rfl, p3.val.rd.int, st.keep _ _ h1, by rw [← h2.length]; exact h5, ?_⟩
              exact m F3 _ σ st.up ((fi.later st).mut e e1 fun H2 z => ⟨_, z, (h2.mono st.up).set (p2.val.later p3.st) j⟩)
          | _ => exact m.elim
      · exact m.elim
    cases k with
    | bo => exact m.elim
    | fz => exact go F1 p m
    | ow => obtain ⟨F2, p2⟩ := p.frz; exact go F2 p2 m
variable {e i' : Expr} {f v : Ev → R} {x : Str} {p apos cpos pos : Pos}
theorem vs_app (i : Nat) (he : VE X F0 H0 Ψ e f) (hN : X.N[i]? = some x := by rfl) (hv : Vis X.env.scope x := by first | exact Or.inl rfl | exact Or.inr (Or.inl rfl) | exact Or.inr (Or.inr rfl)) (hd : (x == ("__debug__" : Str)) = false := by decide)
    (hcd : (x == ("__classdict__" : Str)) = false := by decide) (hbase : attributeBase (.Name x p) "append" X.env (eval (.Name x p) X.env) = eval (.Name x p) X.env := by rfl)
    (hfew : ((backTo cpos (starEach [e] X.env)).all (fun x => !x.1) && (backToKw cpos (keywordEach [] X.env)).all (fun x => x.1.isSome)
      && decide ([e].length + ([] : List Keyword).length + (if ([] : List Keyword).isEmpty then 0 else 1) < 30)) = true := by rfl)
    (hline : (apos.endLine == cpos.line) = true := by rfl) (hs : starEach [e] X.env = (false, eval e X.env) :: starEach [] X.env := by rfl) (hplain : (backTo cpos (starEach [] X.env)).any (·.1) = false := by rfl)
    (hsw : swapsWith (.Call (.Attribute (.Name x p) "append" apos) [e] [] cpos) none pos.line X.env = pure false := by rfl) :
    VS X F0 H0 Ψ (.Expr (.Call (.Attribute (.Name x p) "append" apos) [e] [] cpos) pos) (appG i f) :=
  (ps_expr (pe_bm PySem.F.plainAttrs_list PySem.F.slot_list_append PySem.F.type_list_append mt_append (pe_var hN hv hd hcd) (pa_cons he pa_nil hs) hbase hfew hline hs hplain) hsw).mono fun _ _ _ q => tApp_of q
end
noncomputable def spV0 (K : PySem.W.Frag) (φ : List D → R) (n : Nat) : Sp := fun vs H Q _ => ∃ F ds, Same F H ∧ Reps K F ds vs ∧ ds.length = n ∧ match φ ds with
  | .ok k d => k ≠ .bo ∧ ∀ F' v H', Post K F H k d F' v H' → Q v H'
  | _ => False
noncomputable abbrev Psi0 : Psi := fun _ _ => False
structure Callee (P : Program) (w : World) (K : PySem.W.Frag) (mg : Str → Option Value) (base : Heap) (k : Nat) (x : Str) (n : Nat) (φ : List D → R) : Prop where
  ex : ∃ f fd ps, FnOk P w K mg base CX0 k f fd ps (spV0 K φ n) ∧ Binds K fd ps [] ∧ mg x = some (.ref f) ∧ PySem.W.keepIn K (.ref f) = true
section
variable {X : Cx} {F0 H0 : Hp} {Ψ : Psi} {k n : Nat} {x : Str} {φ : List D → R} {p pos : Pos} {e : Expr} {es : List Expr} {fs : Ev → RA}
theorem scal_rep {K : PySem.W.Frag} {F F' H : Hp} {d : D} {v : V} (s : scalD d = true) (h : RdV K F H d v) : Rep K F' d v := by
  cases d <;> first | cases s | skip
  · rw [Rep]; exact h.non
  · rw [Rep]; exact h.bl
  · rw [Rep]; exact h.int
  · rw [Rep]; exact h.str
theorem v_fn (C : Callee X.prog X.w X.K X.mg X.base k x n φ) (hr : Room k X.A) (ha : VA X F0 H0 Ψ (e :: es) fs) (hg : Gl X x := by rfl) (hdb : (x == ("__debug__" : Str)) = false := by decide)
    (he : starEach (e :: es) X.env = (false, eval e X.env) :: starEach es X.env := by rfl) (hpl : (backTo pos (starEach es X.env)).any (·.1) = false := by rfl) :
    VE X F0 H0 Ψ (.Call (.Name x p) (e :: es) [] pos) (eFn n φ fs) := by
  obtain ⟨f, fd, ps, Fk, hb, hm, hk⟩ := C.ex
  refine (pe_call (E := E0) (dvs := []) (ds := []) Fk hr hg hm hk hb .nil pass0 ha hdb he hpl).mono fun σ H Q h => ?_
  obtain ⟨F, ev, fi, m⟩ := h
  refine ⟨F, ev, fi, ?_⟩
  unfold eFn at m
  cases h1 : fs ev with
  | no => rw [h1] at m; exact m
  | ex C => rw [h1] at m; exact m
  | ok l =>
    rw [h1] at m
    intro F1 vs H1 s va
    rw [List.append_nil]
    simp only [fnR] at m
    by_cases hn : l.length = n
    · rw [if_pos hn] at m
      cases h2 : allFz l with
      | some ds =>
        rw [h2] at m
        dsimp only at m
        have rs := va.fz h2
        refine ⟨F1, ds, s.sub, rs, by rw [rs.length, ← va.length]; exact hn, ?_⟩
        cases h3 : φ ds with
        | no => rw [h3] at m; exact m
        | ex C => rw [h3] at m; exact m
        | ok k' d =>
          rw [h3] at m
          cases k' with
          | bo => exact m.elim
          | fz => exact ⟨by simp, fun F' v H' p => m F' v H' ⟨s.trans p.st, p.val.early s.keep⟩⟩
          | ow => exact ⟨by simp, fun F' v H' p => m F' v H' ⟨s.trans p.st, p.val.early s.keep⟩⟩
      | none =>
        rw [h2] at m
        dsimp only at m
        have rs := va.rds s.sub
        refine ⟨H1, l.map (·.2), .refl _, rs, by simpa using hn, ?_⟩
        cases h3 : φ (l.map (·.2)) with
        | no => rw [h3] at m; exact m
        | ex C => rw [h3] at m; exact m
        | ok k' d =>
          rw [h3] at m
          have go : k' ≠ .bo → (match (if scalD d = true then R.ok .fz d else .no) with
            | .ok k d => ∀ F' v H', Post X.K F H k d F' v H' → Q v H'
            | .ex C => ∀ F' H', Step F0 H0 F' H' → Ψ C H'
            | .no => False) → k' ≠ .bo ∧ ∀ F' v H', Post X.K H1 H1 k' d F' v H' → Q v H' := fun nb m => by
            by_cases hs : scalD d = true
            · rw [if_pos hs] at m
              exact ⟨nb, fun F' v H' p => m F1 v H' ⟨s.trans ⟨.refl _, s.sub.trans p.st.keep, p.st.keep, fun a o e => .inl e⟩, scal_rep hs p.val.rd⟩⟩
            · rw [if_neg hs] at m; exact m.elim
          cases k' with
          | bo => exact m.elim
          | fz => exact go (by simp) m
          | ow => exact go (by simp) m
    · rw [if_neg hn] at m; exact m.elim
end
section
variable {P : Program} {w : World} {K : PySem.W.Frag} {mg : Str → Option Value} {base : Heap}
theorem FI.start {F H : Hp} {N : List Str} {ds : List D} {vs : List V} (s : Same F H) (r : Reps K F ds vs) : FI K F H F H (ev0 (N.length - ds.length) ds) (start N vs) := by
  refine ⟨.refl s, fun i k d e => ?_, fun i j d e hij e1 e2 => ?_, ?_⟩
  · unfold ev0 at e
    by_cases hi : i < ds.length
    · rw [List.getElem?_append_left (by simpa using hi), List.getElem?_map] at e
      cases q : ds[i]? with
      | none => rw [q] at e; cases e
      | some z =>
        rw [q] at e; cases e
        obtain ⟨v, e1, rv⟩ := r.get q
        refine ⟨by simp, v, ?_, rv⟩
        unfold L2.start
        rw [List.getElem?_append_left (by rw [List.length_map, ← r.length]; exact hi), List.getElem?_map, e1]
        rfl
    · rw [List.getElem?_append_right (by simpa using hi), List.getElem?_replicate] at e
      split at e <;> cases e
  · exfalso
    unfold ev0 at e1
    by_cases hi : i < ds.length
    · rw [List.getElem?_append_left (by simpa using hi), List.getElem?_map] at e1
      cases q : ds[i]? with
      | none => rw [q] at e1; cases e1
      | some z => rw [q] at e1; cases e1
    · rw [List.getElem?_append_right (by simpa using hi), List.getElem?_replicate] at e1
      split at e1 <;> cases e1
  · unfold ev0 L2.start
    simp only [List.length_append, List.length_map, List.length_replicate, r.length]
theorem fn_ok {x qual : Str} {st : Stmt} {f : Addr} {fd : FuncData} {N ps : List Str} {k : Nat} {g : Ev → Fl} (F : Fun K x qual st f fd) (S : FnScope N ps (defScope st))
    (hb : ∀ (cdv : Value) (A : Around) (outer : List Env) (s : Shared) (H : Hp) (E : XK) (F0 : Hp), Room k (A.deeper (PyProof.Rows.envOfC qual (defScope st) s.heap.objs.size f cdv)) →
      VSs (cxOf CX0 P w K mg base N qual (defScope st) f cdv A outer s H E).nox F0 H Psi0 (defBody st) g) :
    FnOk P w K mg base CX0 (k + 1) f fd ps (spV0 K (runF (N.length - ps.length) g) ps.length) := by
  refine F.ok S (fun vs H Q E h => ?_) (fun cdv A outer s H vs Q E hr h => ?_)
  · obtain ⟨F, ds, _, r, hl, _⟩ := h
    rw [← r.length]; exact hl
  · obtain ⟨F, ds, sub, r, hl, m⟩ := h
    refine ⟨_, hb cdv A outer s H E F hr, F, ev0 (N.length - ps.length) ds, by rw [← hl]; exact .start sub r, ?_⟩
    unfold runF at m
    cases q : g (ev0 (N.length - ps.length) ds) with
    | nx ev => rw [q] at m; exact fun F' H' σ' _ fi => m.2 F' .non H' ⟨fi.st, by rw [Val, Rep]⟩
    | rt k d =>
      rw [q] at m
      cases k with
      | bo => exact m.elim
      | fz => exact m.2
      | ow => exact m.2
    | bk ev => rw [q] at m; exact m.elim
    | ct ev => rw [q] at m; exact m.elim
    | ex C => rw [q] at m; exact m.elim
    | no => rw [q] at m; exact m.elim
end
end L3
set_option Elab.async false
set_option linter.all false
set_option maxRecDepth 100000
namespace L2
open PySem PySem.Spec PyProof.Rows
section
variable {prog : Program} {w : World} {A : Around} {R : Result → Shared → Prop} {s : Shared}
theorem compLoop_any {elt target iter : Expr} {ifs : List Expr} {scope : Scope} {pos : Pos} {it acc : Value} {env : Env} (I : Nat → Shared → Prop)
    (turn : ∀ n s, I n s → wpAny (model prog w) A (pyNext it) (fun r s₁ => match r with
      | none => R (.ok .next) s₁
      | some v => wpAny (model prog w) A (letOwnedTupleGo target it v) (fun _ s₂ => wpAny (model prog w) A (assign target env v) (fun _ s₃ =>
          wpAny (model prog w) A (forIn ifs true fun c r => if r = true then do let ok ← isTrue c env (eval c env); pure (ForInStep.yield ok) else pure (ForInStep.yield r)) (fun ok s₄ =>
            if ok = true then wpAny (model prog w) A (eval elt env) (fun x s₅ =>
              wpAny (model prog w) A (call (.builtin "list.append") [acc, x]) (fun _ s₆ => ∃ m, m < n ∧ I m s₆) (fun _ _ => False) s₅) (fun _ _ => False) s₄
            else ∃ m, m < n ∧ I m s₄) (fun _ _ => False) s₃) (fun _ _ => False) s₂) (fun _ _ => False) s₁) (fun _ _ => False) s)
    (n : Nat) (h : I n s) : codeAny (model prog w) A (.compLoop (.ListComp elt [⟨target, iter, ifs, 0⟩] scope pos) 0 it acc env) R s := by
  refine codeAny_loop rfl I (fun n s hI => ?_) n h
  show wpAny _ A ((compTurn (.ListComp elt [⟨target, iter, ifs, 0⟩] scope pos) 0 it acc env).onRaise (fun x => do noteFrame x env; theTreesLotGoes x)) _ _ s
  refine wpAny_noted ?_
  rw [compTurn_list]
  refine wpAny_bind (wpAny_standAt (wpAny_bind (wpAny_mono (turn n s hI) (fun r s₁ h₁ => ?_) fun _ _ h' => h'.elim)))
  cases r with
  | none => exact wpAny_pure h₁
  | some v =>
    refine wpAny_bind (wpAny_mono h₁ (fun _ s₂ h₂ => ?_) fun _ _ h' => h'.elim)
    refine wpAny_bind (wpAny_mono h₂ (fun _ s₃ h₃ => wpAny_bind (wpAny_mono h₃ (fun ok s₄ h₄ => ?_) fun _ _ h' => h'.elim)) fun _ _ h' => h'.elim)
    cases ok with
    | false => exact wpAny_pure ⟨rfl, h₄⟩
    | true =>
      exact wpAny_bind (wpAny_bind (wpAny_mono h₄ (fun x s₅ h₅ => wpAny_bind (wpAny_mono h₅ (fun _ s₆ h₆ => wpAny_pure (wpAny_pure ⟨rfl, h₆⟩)) fun _ _ h' => h'.elim)) fun _ _ h' => h'.elim))
end
noncomputable def PIfs (X : Cx) (ifs : List Expr) (t : TT) : Prop :=
  ∀ (pins : List (Addr × Obj)) (s : Shared) (σ : St) (H : Hp) (Q : Bool → Hp → Prop), Inv X pins σ H s → t σ H Q →
    wpAny (model X.prog X.w) X.A (forIn ifs true fun c r => if r = true then do let ok ← isTrue c X.env (eval c X.env); pure (ForInStep.yield ok) else pure (ForInStep.yield r)) (TP X pins σ Q) X.xe s
theorem pifs_nil {X : Cx} : PIfs X [] (fun _ H Q => Q true H) := fun _ _ _ H _ I h => wpAny_tests_nil ⟨H, I, h⟩
theorem pifs_one {X : Cx} {c : Expr} {t : TT} (h : PT X c t) : PIfs X [c] t := fun pins s σ H Q I q => wpAny_tests_one (h pins s σ H Q I q)

noncomputable def closOf (env : Env) : List (Str × NameKind) → List (Str × Addr) → List (Str × Addr)
  | [], acc => acc
  | (n, k) :: r, acc => closOf env r (if k == .free then (n, (env.cells.lookup n).getD 0) :: acc else acc)
theorem closOf_lookup {env : Env} {x : Str} {c : Addr} : ∀ (l : List (Str × NameKind)) (acc : List (Str × Addr)), (closOf env l acc).lookup x = some c →
    (∃ k, (x, k) ∈ l ∧ k = .free ∧ (env.cells.lookup x).getD 0 = c) ∨ acc.lookup x = some c
  | [], acc, h => .inr h
  | (n, k) :: r, acc, h => by
    rcases closOf_lookup r _ h with ⟨k', h1, h2, h3⟩ | h1
    · exact .inl ⟨k', .tail _ h1, h2, h3⟩
    · by_cases hk : (k == NameKind.free) = true
      · rw [if_pos hk, List.lookup_cons] at h1
        by_cases hx : (x == n) = true
        · simp only [hx] at h1
          have e : x = n := by simpa using hx
          subst e
          exact .inl ⟨k, .head _, by simpa using hk, Option.some.inj h1⟩
        · simp only [hx] at h1; exact .inr h1
      · rw [if_neg hk] at h1; exact .inr h1
theorem closOf_has {env : Env} {x : Str} : ∀ (l : List (Str × NameKind)) (acc : List (Str × Addr)), (x, NameKind.free) ∈ l ∨ (acc.lookup x).isSome = true → ∃ c, (closOf env l acc).lookup x = some c
  | [], acc, h => by
    rcases h with h | h
    · cases h
    · exact Option.isSome_iff_exists.mp h
  | (n, k) :: r, acc, h => by
    refine closOf_has r _ ?_
    rcases h with h | h
    · rcases List.mem_cons.mp h with e | h
      · cases e
        right
        simp [List.lookup_cons]
      · exact .inl h
    · right
      by_cases hk : (k == NameKind.free) = true
      · rw [if_pos hk, List.lookup_cons]
        by_cases hx : (x == n) = true
        · simp [hx]
        · simp only [hx]; exact h
      · rw [if_neg hk]; exact h
theorem closureFor_of {scope : Scope} {env : Env} (h : ∀ y ∈ scope.names, y.2 = .free → ∃ c, env.cells.lookup y.1 = some c) : closureFor scope env = pure (closOf env scope.names []) := by
  have key : ∀ (l : List (Str × NameKind)) (acc : List (Str × Addr)), (∀ y ∈ l, y.2 = .free → ∃ c, env.cells.lookup y.1 = some c) →
      (forIn l acc fun (x : Str × NameKind) (cs : List (Str × Addr)) => (match x with | (name, kind) => if (kind == NameKind.free) = true then (do let c ← cellOf env name; pure (ForInStep.yield ((name, c) :: cs))) else pure (ForInStep.yield cs) : Sem (ForInStep (List (Str × Addr))))) = pure (closOf env l acc) := by
    intro l
    induction l with
    | nil => intro acc _; rfl
    | cons x r ih =>
      intro acc hl
      obtain ⟨n, k⟩ := x
      rw [List.forIn_cons]
      by_cases hk : (k == NameKind.free) = true
      · obtain ⟨c, hc⟩ := hl (n, k) (.head _) (by simpa using hk)
        have e : cellOf env n = pure c := by unfold cellOf; rw [hc]
        simp only [hk, if_true, e, pure_bind, closOf]
        rw [ih _ fun y hy => hl y (.tail _ hy)]
        dsimp only at hc
        rw [hc]
        rfl
      · simp only [hk, Bool.false_eq_true, if_false, pure_bind, closOf]
        exact ih _ fun y hy => hl y (.tail _ hy)
  unfold closureFor
  have := key scope.names [] h
  exact (congrArg (fun m => m >>= fun cs => pure cs) this).trans rfl
theorem relabel_lookup {env : Env} {x : Str} : ∀ {names : List (Str × NameKind)} {k : NameKind}, (names.map fun (n, k) => if (k == NameKind.free && env.scope.kind == .function && env.kindOf n == some .cell) then (n, NameKind.cell) else (n, k)).lookup x = some k →
    names.lookup x = some k ∨ (k = .cell ∧ names.lookup x = some .free)
  | [], _, h => by simp at h
  | (n, k0) :: r, k, h => by
    have ih := @relabel_lookup env x r k
    rw [List.map_cons] at h
    by_cases hx : (x == n) = true
    · by_cases hc : (k0 == NameKind.free && env.scope.kind == .function && env.kindOf n == some .cell) = true
      · simp only [hc, if_true, List.lookup_cons, hx] at h
        have hf : k0 = .free := by simp at hc; exact hc.1.1
        exact .inr ⟨(Option.some.inj h).symm, by simp [List.lookup_cons, hx, hf]⟩
      · simp only [hc, if_false, List.lookup_cons, hx] at h
        exact .inl (by simpa [List.lookup_cons, hx] using h)
    · by_cases hc : (k0 == NameKind.free && env.scope.kind == .function && env.kindOf n == some .cell) = true
      · rw [show (match ((n, k0) : Str × NameKind) with | (n, k) => if (k == NameKind.free && env.scope.kind == .function && env.kindOf n == some .cell) = true then (n, NameKind.cell) else (n, k)) = (n, .cell) from if_pos hc] at h
        rw [List.lookup_cons] at h
        simp only [hx] at h
        simpa [List.lookup_cons, hx] using ih h
      · rw [show (match ((n, k0) : Str × NameKind) with | (n, k) => if (k == NameKind.free && env.scope.kind == .function && env.kindOf n == some .cell) = true then (n, NameKind.cell) else (n, k)) = (n, k0) from if_neg hc] at h
        rw [List.lookup_cons] at h
        simp only [hx] at h
        simpa [List.lookup_cons, hx] using ih h

theorem relabel_free {env : Env} {x : Str} : ∀ {names : List (Str × NameKind)}, names.lookup x = some .free →
    (names.map fun (n, k) => if (k == NameKind.free && env.scope.kind == .function && env.kindOf n == some .cell) then (n, NameKind.cell) else (n, k)).lookup x = some .cell ∨
    (names.map fun (n, k) => if (k == NameKind.free && env.scope.kind == .function && env.kindOf n == some .cell) then (n, NameKind.cell) else (n, k)).lookup x = some .free
  | [], h => by simp at h
  | (n, k0) :: r, h => by
    have ih := @relabel_free env x r
    rw [List.map_cons, List.lookup_cons] at *
    by_cases hx : (x == n) = true
    · simp only [hx] at h
      cases h
      by_cases hc : (NameKind.free == NameKind.free && env.scope.kind == .function && env.kindOf n == some .cell) = true
      · left; simp only [if_pos hc, hx]
      · right; simp only [if_neg hc, hx]
    · simp only [hx] at h
      by_cases hc : (k0 == NameKind.free && env.scope.kind == .function && env.kindOf n == some .cell) = true
      · simp only [if_pos hc, hx]; exact ih h
      · simp only [if_neg hc, hx]; exact ih h
noncomputable def cxC (X : Cx) (N' : List Str) (scope : Scope) (C : Addr) (s : Shared) (H : Hp) (fp : List Addr) : Cx where
  prog := X.prog
  w := X.w
  K := X.K
  mg := X.mg
  base := X.base
  A := X.A
  N := N'
  s₀ := s
  H₀ := H
  env := compEnvC scope (closOf X.env scope.names []) C X.env
  outer := X.stack
  stack := X.stack
  ex := fp
  fn := fun _ => false
  calm := X.calm
  pn := []
  xe := fun _ _ => False
noncomputable def capS (cap : List (Option Nat)) (σ : St) : St := cap.map fun o => o.bind fun j => (σ[j]?).join
structure CompScope (X : Cx) (N' : List Str) (cap : List (Option Nat)) (scope : Scope) : Prop where
  kind : scope.kind = .function
  nocell : ∀ y ∈ scope.names, y.2 ≠ .cell
  names : ∀ y ∈ scope.names, y.2 = .local → scope.names.lookup y.1 = some .local
  fr : ∀ y ∈ scope.names, y.2 = .free → X.env.kindOf y.1 = some .cell ∨ X.env.kindOf y.1 = some .free
  len : cap.length = N'.length
  cap : ∀ (i j : Nat), cap[i]? = some (some j) → ∃ x, N'[i]? = some x ∧ X.N[j]? = some x ∧ scope.names.lookup x = some .free
section
variable {X : Cx} {pins : List (Addr × Obj)} {σ : St} {H : Hp} {s : Shared} {N' : List Str} {cap : List (Option Nat)} {scope : Scope} {fp : List Addr}
theorem mem_of_lookup' {x : Str} {k : NameKind} {l : List (Str × NameKind)} (h : l.lookup x = some k) : (x, k) ∈ l := PySem.mem_of_lookup h
theorem CompScope.cells (S : CompScope X N' cap scope) (ok : X.Ok) : ∀ y ∈ scope.names, y.2 = .free → ∃ c, X.env.cells.lookup y.1 = some c := fun y hy hf => ok.has y.1 (S.fr y hy hf)
theorem CompScope.cl (S : CompScope X N' cap scope) (ok : X.Ok) {x : Str} {c : Addr} (h : (closOf X.env scope.names []).lookup x = some c) : X.env.cells.lookup x = some c := by
  rcases closOf_lookup _ _ h with ⟨k, h1, h2, h3⟩ | h1
  · subst h2
    obtain ⟨c', e⟩ := S.cells ok (x, .free) h1 rfl
    rw [e] at h3
    rw [e]; exact congrArg some h3
  · simp at h1
theorem CompScope.inv (S : CompScope X N' cap scope) (I : Inv X pins σ H s) (hfp : ∀ b ∈ fp, FpOk X pins H b) {h' : Heap} {t' : Nat} (hk : ∀ b o, s.heap.get? b = some o → h'.get? b = some o) (hn : h'.Ns s.heap.objs.size fun _ => none) (hfs : ∀ b ∈ fp, b < s.heap.objs.size) :
    Inv (cxC X N' scope s.heap.objs.size s H fp) [] (capS cap σ) H { s with heap := h', toks := t' } := by
  have scl : ∀ {x : Str} {c : Addr}, (closOf X.env scope.names []).lookup x = some c → X.env.cells.lookup x = some c := fun h => S.cl I.ok h
  refine ⟨⟨I.ok.mod, by simpa [cxC, compEnvC, relabel] using S.kind, I.ok.glob, I.ok.blt, Nat.le_refl _, fun x y c h1 h2 => I.ok.inj x y c (scl h1) (scl h2), fun x hx => ?_, fun x c hf h => ?_, I.ok.hd, I.ok.frames, .inl rfl, fun b hb => ⟨Nat.ne_of_lt (hfs b hb), fun x c h => (hfp b hb).2.2.2.2.1 x c (scl h)⟩,
    I.bs, Nat.le_trans I.ok.bsz I.sz, fun b o e hb => ?_, fun b hb hf => ?_, I.stack, I.stkFree⟩, rfl, I.bare, Un.kept hk, ⟨_, hn, fun i x v e1 e2 e3 => ?_⟩, fun x c h => ?_, I.hok.fresh (Nat.le_refl _), fun x c h => I.freeC x c (scl h), fun p hp => absurd (show p ∈ ([] : List (Addr × Obj)) from hp) (by simp), I.hok.kept hk, ?_⟩
  · -- a name of a cell has one
    have hx : (scope.names.map fun (n, k) => if (k == NameKind.free && X.env.scope.kind == .function && X.env.kindOf n == some .cell) then (n, NameKind.cell) else (n, k)).lookup x = some .cell ∨ (scope.names.map fun (n, k) => if (k == NameKind.free && X.env.scope.kind == .function && X.env.kindOf n == some .cell) then (n, NameKind.cell) else (n, k)).lookup x = some .free := hx
    have : (x, NameKind.free) ∈ scope.names := by
      rcases hx with hx | hx
      · rcases relabel_lookup hx with q | ⟨_, q⟩
        · exact absurd rfl (S.nocell _ (mem_of_lookup' q))
        · exact mem_of_lookup' q
      · rcases relabel_lookup hx with q | ⟨q, _⟩
        · exact mem_of_lookup' q
        · cases q
    exact closOf_has _ _ (.inl this)
  · exact absurd (show false = true from hf) (by decide)
  · -- base objects are no iterators
    have hb' := hfp b hb
    rcases hb'.2.2.2.1 with z | z
    · exact I.ok.noex b o e z
    · exact absurd (Nat.lt_of_lt_of_le (Heap.lt_size (I.ok.bs b o e).1) z) (Nat.lt_irrefl _)
  · -- an iterator is no frame
    rcases List.mem_cons.mp (I.stkSub b hf) with e | e
    · exact (hfp b hb).2.1 e
    · exact (hfp b hb).2.2.1 e
  · -- the names from around
    obtain ⟨j, hj, hv⟩ : ∃ j, cap[i]? = some (some j) ∧ σ[j]? = some (some v) := by
      unfold capS at e2
      rw [List.getElem?_map] at e2
      cases q : cap[i]? with
      | none => rw [q] at e2; cases e2
      | some o =>
        rw [q] at e2
        cases o with
        | none => cases e2
        | some j =>
          refine ⟨j, rfl, ?_⟩
          have e2 : (σ[j]?).join = some v := Option.some.inj e2
          cases q2 : σ[j]? with
          | none => rw [q2] at e2; cases e2
          | some z => rw [q2] at e2; rw [show z = some v from e2]
    obtain ⟨y, g1, g2, g3⟩ := S.cap i j hj
    have exy : x = y := Option.some.inj (e1.symm.trans g1)
    subst exy
    have hk2 := S.fr (x, .free) (mem_of_lookup' g3) rfl
    obtain ⟨m, hm, hl⟩ := I.loc
    obtain ⟨u, r, l⟩ := hl j x v g2 hv (hk2.elim (fun z => .inr (.inl z)) fun z => .inr (.inr z))
    refine ⟨u, r, .inr ⟨relabel_free g3, ?_⟩⟩
    rcases l with ⟨z, _⟩ | ⟨_, c, e, q⟩
    · rcases hk2 with z' | z' <;> (rw [z] at z'; cases z')
    · obtain ⟨c', e'⟩ := closOf_has (env := X.env) (x := x) scope.names [] (.inl (mem_of_lookup' g3))
      have := scl e'
      rw [e] at this
      cases this
      exact ⟨c, e', q.keeps hk⟩
  · obtain ⟨v, q⟩ := I.cell x c (scl h)
    exact ⟨v, q.keeps hk⟩
  · show (capS cap σ).length = N'.length
    unfold capS; rw [List.length_map]; exact S.len
end
end L2
set_option Elab.async false
set_option linter.all false
set_option maxRecDepth 100000
namespace L2
open PySem PySem.Spec PyProof.Rows
noncomputable def tLC (cap : List (Option Nat)) (wi : TI) (g : TG) (tc : TT) (te : TE) : TE := fun σ H Q => wi σ H fun J H1 => ∀ D, H1 D = none → ∃ W : Nat → Nat → List V → L2.St → Hp → Prop,
  (∃ m, W 0 m [] (capS cap σ) (upd H1 D (.lst []))) ∧ ∀ i m ys σ' H', W i m ys σ' H' → H' D = some (.lst ys) ∧ ys.length < sizeLine ∧
    ((J.stop i H' ∧ Q (.ref D) H') ∨ (J.go i H' ∧ ∀ x H2, J.yld i H' x H2 → g x σ' H2 fun σ3 H3 => tc σ3 H3 fun b H4 =>
      if b = true then te σ3 H4 fun y H5 => H5 D = some (.lst ys) ∧ ∃ m', m' < m ∧ W (i + 1) m' (ys ++ [y]) σ3 (upd H5 D (.lst (ys ++ [y]))) else ∃ m', m' < m ∧ W (i + 1) m' ys σ3 H4))
section
variable {X : Cx} {pins : List (Addr × Obj)} {σ : L2.St} {H : Hp} {s : Shared} {N' : List Str} {cap : List (Option Nat)} {scope : Scope} {elt target iter : Expr} {ifs : List Expr} {wi : TI} {g : TG} {tc : TT} {te : TE} {pos p0 : Pos}
theorem comp_run {use : Option (Value → Sem Unit)} {Q' : VK} {Q : Value → Shared → Prop} (hcalm : X.calm = true) (S : CompScope X N' cap scope) (hi : PI X target iter wi)
    (hb : ∀ C s H fp, PG (cxC X N' scope C s H fp) target g ∧ PIfs (cxC X N' scope C s H fp) ifs tc ∧ PE (cxC X N' scope C s H fp) elt te) (hs : ∀ x, foldedSetIterable iter X.env x = pure x)
    (I : Inv X pins σ H s) (h : tLC cap wi g tc te σ H Q')
    (fin : ∀ (D C : Addr) (o : Obj) (H' : Hp) (s' : Shared), Inv X (pins ++ [(C, o)]) σ H' s' → FpOk X pins H' C → (∃ m, ∀ h : Heap, h.get? C = some o → h.Ns C m) → Q' (.ref D) H' → compPost (model X.prog X.w) X.A X.xe use Q (.ref D) C (.ok .next) s') :
    wpAny (model X.prog X.w) X.A (comprehension (.ListComp elt [⟨target, iter, ifs, 0⟩] scope pos) scope X.env p0 (newList []) false (eval iter X.env) use) Q X.xe s := by
  refine wpAny_comprehension_free rfl hs (closureFor_of (S.cells I.ok)) S.kind S.names ?_
  refine thn (hi pins s σ H _ I h) fun xv s₁ h₁ => thn h₁ fun itv s₂ h₂ => ?_
  obtain ⟨it, fp, tn, J, H2, rfl, I2, T, st2, f2, h2⟩ := h₂
  have hlt : ∀ b ∈ fp, b < s₂.heap.objs.size := fun b hb => by obtain ⟨o, e, _⟩ := T.obj 0 _ st2 b hb; exact Heap.lt_size e
  refine wpAny_newObj_type (wpAny_newFunctionEnv S.nocell (by intro y hy; simp at hy) (fun h4 hns4 hsb4 => ?_) S.kind)
  have I3 := I2.lnew (ys := []) (its := []) (t' := s₂.toks) .nil (Nat.zero_le _)
  obtain ⟨W, ⟨m0, w0⟩, turn⟩ := h2 s₂.heap.objs.size (I2.hok.fresh (Nat.le_refl _))
  have f3 : ∀ b ∈ fp, FpOk X pins (upd H2 s₂.heap.objs.size (.lst [])) b := fun b hb => by
    obtain ⟨q0, q⟩ := f2 b hb
    exact ⟨by rw [upd_ne (Nat.ne_of_lt (hlt b hb))]; exact q0, q⟩
  generalize hs3 : ({ s₂ with heap := s₂.heap.push { cls := .type "list", dict := none, data := .seq ([] : List Value).toArray } } : Shared) = s3 at *
  have hk : ∀ b o, s3.heap.get? b = some o → h4.get? b = some o := fun b o e => hsb4.extBut b o (Nat.ne_of_lt (Heap.lt_size e)) (Heap.get?_push_of_some _ e)
  have hsz : s₂.heap.objs.size ≤ s3.heap.objs.size := by rw [← hs3]; show _ ≤ (s₂.heap.push _).objs.size; rw [Heap.size_push]; exact Nat.le_succ _
  have hlt3 : ∀ b ∈ fp, b < s3.heap.objs.size := fun b hb => Nat.lt_of_lt_of_le (hlt b hb) hsz
  have kept23 : ∀ b o, s₂.heap.get? b = some o → s3.heap.get? b = some o := fun b o e => by rw [← hs3]; exact Heap.get?_push_of_some _ e
  have Ic := S.inv (t' := s3.toks + ([] : List (Str × Value)).length) I3 f3 hk hns4 hlt3
  have st4 : tn 0 h4 := T.keep 0 _ _ st2 fun b hb o e => hk b o (kept23 b o e)
  obtain ⟨bg, bi, be⟩ := hb s3.heap.objs.size s3 (upd H2 s₂.heap.objs.size (.lst [])) fp
  -- the iterator's objects, in the block
  have statC : ∀ {H' : Hp}, (∀ b ∈ fp, H' b = none) → ∀ b ∈ fp, FpOk (cxC X N' scope s3.heap.objs.size s3 (upd H2 s₂.heap.objs.size (.lst [])) fp) [] H' b := fun hn b hb =>
    ⟨hn b hb, Nat.ne_of_lt (hlt3 b hb), fun hf => by
      rcases List.mem_cons.mp (I3.stkSub b hf) with e | e
      · exact (f3 b hb).2.1 e
      · exact (f3 b hb).2.2.1 e, .inl hb, fun x c e => (f3 b hb).2.2.2.2.1 x c (S.cl I3.ok e), fun p hp => absurd (show p ∈ ([] : List (Addr × Obj)) from hp) (by simp)⟩
  have loop : codeAny (model X.prog X.w) X.A (.compLoop (.ListComp elt [⟨target, iter, ifs, 0⟩] scope pos) 0 (.ref it) (.ref s₂.heap.objs.size) (compEnvC scope (closOf X.env scope.names []) s3.heap.objs.size X.env))
      (compPost (model X.prog X.w) X.A X.xe use Q (.ref s₂.heap.objs.size) s3.heap.objs.size) { s3 with heap := h4, toks := s3.toks + ([] : List (Str × Value)).length } := by
    refine compLoop_any (fun n s' => ∃ i ys σ' H', Inv (cxC X N' scope s3.heap.objs.size s3 (upd H2 s₂.heap.objs.size (.lst [])) fp) [] σ' H' s' ∧ tn i s'.heap ∧ (∀ b ∈ fp, H' b = none) ∧ W i n ys σ' H') ?_ m0
      ⟨0, [], _, _, Ic, st4, fun b hb => (f3 b hb).1, w0⟩
    rintro n s5 ⟨i, ys, σ5, H5, I5, st5, fr5, w5⟩
    obtain ⟨hD, hl, alt⟩ := turn i n ys σ5 H5 w5
    rcases alt with ⟨stop, q⟩ | ⟨go, step⟩
    · refine thn (T.done (cxC X N' scope s3.heap.objs.size s3 (upd H2 s₂.heap.objs.size (.lst [])) fp) rfl rfl rfl hcalm i [] s5 σ5 H5 _ I5 (statC fr5) st5 stop) fun r s6 ⟨hr, I6⟩ => ?_
      subst hr
      -- back to the outer frame
      have I7 : Inv X pins σ H5 s6 := I3.call' (ch := fp) I6.os I6.base I6.hok I6.bare fun b hb => ⟨(f3 b hb).2.2.2.1, (f3 b hb).2.1, (f3 b hb).2.2.2.2.1, (f3 b hb).2.2.2.2.2⟩
      obtain ⟨m, ⟨o, es, ep, ho, hd, hrest⟩, _⟩ := id I6.loc
      have hC : FpOk X pins H5 s3.heap.objs.size := I3.fpOk (Nat.le_refl _) I6.free
      refine fin _ _ o H5 s6 (I7.pins_of fun p hp => ?_) hC ⟨m, fun h e => ⟨o, es, ep, e, hd, hrest⟩⟩ q
      rcases List.mem_append.mp hp with hp | hp
      · exact I7.pin p (List.mem_append_right _ hp)
      · have e : p = (s3.heap.objs.size, o) := by simpa using hp
        subst e
        exact ⟨ho, hC.1, hC.2.1, hC.2.2.1, fun v => by rw [hd]; intro z; cases z⟩
    · refine thn (T.item (cxC X N' scope s3.heap.objs.size s3 (upd H2 s₂.heap.objs.size (.lst [])) fp) rfl rfl rfl hcalm i [] s5 σ5 H5 _ I5 (statC fr5) st5 go) fun r s6 ⟨u, hr, h6⟩ => ?_
      subst hr
      refine thn h6 fun _ s7 ⟨x, H7, I7, r7, y7, st7, fr7⟩ => ?_
      have I7' := I7.pinned (statC fr7) (T.obj _ _ st7)
      refine thn (bg _ s7 σ5 H7 x u _ I7' r7 (step x H7 y7)) fun _ s8 ⟨σ8, H8, I8, q8⟩ => ?_
      refine thn (bi _ s8 σ8 H8 _ I8 q8) fun ok s9 ⟨H9, I9, q9⟩ => ?_
      have again : ∀ {ys' : List V} {H' : Hp} {s' : Shared} {m' : Nat}, Inv (cxC X N' scope s3.heap.objs.size s3 (upd H2 s₂.heap.objs.size (.lst [])) fp) ([] ++ pinsAt fp s7.heap) σ8 H' s' → m' < n → W (i + 1) m' ys' σ8 H' →
          ∃ m, m < n ∧ ∃ i ys σ' H', Inv (cxC X N' scope s3.heap.objs.size s3 (upd H2 s₂.heap.objs.size (.lst [])) fp) [] σ' H' s' ∧ tn i s'.heap ∧ (∀ b ∈ fp, H' b = none) ∧ W i m ys σ' H' := fun {ys' H' s' m'} I' hm w' => by
        refine ⟨m', hm, i + 1, ys', σ8, H', I'.unpinned, T.keep _ _ _ st7 fun b hb o e => (I'.pin (b, o) (List.mem_append_right _ (List.mem_append_right _ (mem_pinsAt hb e)))).1, fun b hb => ?_, w'⟩
        obtain ⟨o, e, d⟩ := T.obj _ _ st7 b hb
        exact (I'.pin (b, o) (List.mem_append_right _ (List.mem_append_right _ (mem_pinsAt hb e)))).2.1
      cases ok with
      | false =>
        rw [if_neg Bool.false_ne_true] at q9 ⊢
        obtain ⟨m', hm, w'⟩ := q9
        exact again I9 hm w'
      | true =>
        rw [if_pos rfl] at q9 ⊢
        refine thn (be _ s9 σ8 H9 _ I9 q9) fun v s10 ⟨y, H10, I10, r10, hD10, m', hm, w'⟩ => ?_
        refine thn (mt_append _ s10 σ8 H10 (.ref s₂.heap.objs.size) [y] (.ref s₂.heap.objs.size) [v] (fun _ H' => H' = upd H10 s₂.heap.objs.size (.lst (ys ++ [y]))) I10 rfl (.cons r10 .nil) ⟨_, ys, y, rfl, rfl, hD10, hl, rfl⟩) fun _ s11 ⟨_, H11, I11, _, e11⟩ => ?_
        subst e11
        exact again I11 hm w'
  exact codeAny_compStart_list loop (T.self _ 0 _ _ _ st4 loop)
theorem comp_letgo {C : Addr} {o : Obj} {H' : Hp} {s' : Shared} {σ' : L2.St} (I : Inv X (pins ++ [(C, o)]) σ' H' s') (f : FpOk X pins H' C) {h' : Heap} (sb : Heap.SameBut C s'.heap h') : Inv X pins σ' H' { s' with heap := h' } :=
  (I.unpinned).turned (t' := s'.toks) (fun b ob hb e => sb.extBut b ob hb e) f.1 f.2.1 f.2.2.2.1 f.2.2.2.2.1 f.2.2.2.2.2
theorem pe_lcomp (hcalm : X.calm = true) (S : CompScope X N' cap scope) (hi : PI X target iter wi)
    (hb : ∀ C s H fp, PG (cxC X N' scope C s H fp) target g ∧ PIfs (cxC X N' scope C s H fp) ifs tc ∧ PE (cxC X N' scope C s H fp) elt te) (hs : ∀ x, foldedSetIterable iter X.env x = pure x := by intro _; rfl) :
    PE X (.ListComp elt [⟨target, iter, ifs, 0⟩] scope pos) (tLC cap wi g tc te) := by
  intro pins s σ H Q I h
  rw [eval_ListComp]
  refine comp_run (use := none) (Q' := Q) hcalm S hi hb hs I h fun D C o H' s' I' f ⟨m, hm⟩ q => ?_
  have ho := (I'.pin (C, o) (by simp)).1
  exact ⟨m, hm _ ho, fun h' sb => ⟨.ref D, H', comp_letgo I' f sb, rfl, q⟩⟩
theorem ps_lcomp {i : Nat} {y : Str} {py spos : Pos} (hcalm : X.calm = true) (S : CompScope X N' cap scope) (hi : PI X target iter wi)
    (hb : ∀ C s H fp, PG (cxC X N' scope C s H fp) target g ∧ PIfs (cxC X N' scope C s H fp) ifs tc ∧ PE (cxC X N' scope C s H fp) elt te) (hpg : PG X (.Name y py) (gName i))
    (hsw : swapsWith (.ListComp elt [⟨target, iter, ifs, 0⟩] scope pos) (some (.Name y py)) spos.line X.env = pure true) (hs : ∀ x, foldedSetIterable iter X.env x = pure x := by intro _; rfl) :
    PS X (.Assign [.Name y py] (.ListComp elt [⟨target, iter, ifs, 0⟩] scope pos) spos) (tAsg (tLC cap wi g tc te) (gName i)) := by
  intro pins s σ H D I h
  rw [exec_Assign_Name_used _ _ _ _ hsw]
  refine wpAny_bind (wpAny_standAt (wpAny_bind ?_))
  show wpAny _ X.A (do let _ ← comprehension (.ListComp elt [⟨target, iter, ifs, 0⟩] scope pos) scope X.env _ (newList []) false (eval iter X.env) (some (assign (.Name y py) X.env))) _ _ s
  refine wpAny_bind (wpAny_mono (comp_run (use := some (assign (.Name y py) X.env)) (Q := fun _ s' => SP X pins D .next s') hcalm S hi hb hs I h fun A C o H' s' I' f ⟨m, hm⟩ q => ?_) (fun _ s' hq => wpAny_pure (wpAny_pure hq)) fun _ _ e => e)
  show wpAny _ X.A (assign (.Name y py) X.env (.ref A)) _ _ s'
  refine thn (hpg _ s' σ H' (.ref A) (.ref A) (fun σ' H'' => H'' = H' ∧ D.nx σ' H'') I' rfl ⟨rfl, q⟩) fun _ s'' ⟨σ2, H2, I2, e2, q2⟩ => ?_
  subst e2
  exact ⟨m, hm _ (I2.pin (C, o) (by simp)).1, fun h' sb => ⟨σ2, H2, comp_letgo I2 f sb, q2⟩⟩
end
end L2
set_option Elab.async false
set_option linter.all false
set_option maxRecDepth 100000
namespace L3
open PySem L2
noncomputable def capE (cap : List (Option Nat)) (ev : Ev) : Ev := cap.map fun o => o.bind fun j => match (ev[j]?).join with
  | some (.fz, d) => some (.fz, d)
  | _ => none
noncomputable def compE (b : B1) (c e : Ev → R) (ev : Ev) : List D → Option (List D)
  | [] => some []
  | d :: ds => match b d ev with
    | none => none
    | some ev1 => match c ev1 with
      | .ok _ (.bl t) => if t then (match e ev1 with
        | .ok .bo _ => none
        | .ok _ x => (compE b c e ev ds).map (x :: ·)
        | _ => none) else compE b c e ev ds
      | _ => none
noncomputable def compR (cap : List (Option Nat)) (b : B1) (c e : Ev → R) (ev : Ev) : RI → R
  | .ok ds => if ds.length < LIM then (match compE b c e (capE cap ev) ds with
    | some l => .ok .ow (.lst l)
    | none => .no) else .no
  | .ex C => .ex C
  | .no => .no
noncomputable def eComp (cap : List (Option Nat)) (fi : Ev → RI) (b : B1) (c e : Ev → R) (ev : Ev) : R := compR cap b c e ev (fi ev)
noncomputable def BOnly (S : List Nat) (b : B1) : Prop := ∀ d ev ev', b d ev = some ev' → ev'.length = ev.length ∧ ∀ i, i ∉ S → ev'[i]? = ev[i]?
theorem bo_name (i : Nat) : BOnly [i] (bName i) := fun d ev ev' e => by
  cases e
  exact ⟨by simp, fun j hj => by rw [List.getElem?_set_ne]; simp at hj; exact fun z => hj z.symm⟩
section
variable {X : Cx} {K : PySem.W.Frag} {F0 H0 F H F' H' : Hp} {Ψ : Psi} {σ : L2.St} {ev : Ev}
theorem capE_no (cap : List (Option Nat)) (ev : Ev) {i : Nat} {d : D} : (capE cap ev)[i]? ≠ some (some (.ow, d)) := fun e => by
  unfold capE at e
  rw [List.getElem?_map] at e
  cases q : cap[i]? with
  | none => rw [q] at e; cases e
  | some o =>
    rw [q] at e
    cases o with
    | none => cases e
    | some j =>
      have e : (match (ev[j]?).join with | some (.fz, d) => some (Kd.fz, d) | _ => none) = some (.ow, d) := Option.some.inj e
      split at e <;> cases e
theorem FI.cap (cap : List (Option Nat)) (f : FI K F0 H0 F H ev σ) : FI K F0 H0 F H (capE cap ev) (capS cap σ) := by
  refine ⟨f.st, fun i k d e => ?_, fun i j d e _ e1 _ => absurd e1 (capE_no cap ev), by simp [capE, capS]⟩
  have e' := e
  unfold capE at e
  rw [List.getElem?_map] at e
  cases q : cap[i]? with
  | none => rw [q] at e; cases e
  | some o =>
    rw [q] at e
    cases o with
    | none => cases e
    | some j =>
      have e : (match (ev[j]?).join with | some (.fz, d) => some (Kd.fz, d) | _ => none) = some (k, d) := Option.some.inj e
      split at e
      · rename_i d' hj
        cases e
        have hj' : ev[j]? = some (some (.fz, d)) := by
          cases q2 : ev[j]? with
          | none => rw [q2] at hj; cases hj
          | some z => rw [q2] at hj; rw [show z = some (.fz, d) from hj]
        obtain ⟨n, v, e1, hv⟩ := f.at_ j _ _ hj'
        refine ⟨n, v, ?_, hv⟩
        unfold capS
        rw [List.getElem?_map, q]
        show some ((σ[j]?).join) = _
        rw [e1]; rfl
      · cases e
theorem FI.hid {a : Addr} {o : HO} (f : FI K F0 H0 F H ev σ) (no : ∀ (i : Nat) d, ev[i]? ≠ some (some (.ow, d))) (h0 : H0 a = none) (hf : F a = none) : FI K F0 H0 F (upd H a o) ev σ := by
  have ne : ∀ {G : Hp}, G a = none → Same G H → Same G (upd H a o) := fun {G} n s b u q => by
    rw [upd_ne]; exact s b u q
    rintro rfl; rw [n] at q; cases q
  refine ⟨⟨f.st.up, ne hf f.sub, ne h0 f.st.keep, f.st.new⟩, fun i k d e => ?_, f.apart, f.len⟩
  obtain ⟨n, v, e1, hv⟩ := f.at_ i k d e
  cases k with
  | bo => exact absurd rfl n
  | ow => exact absurd e (no i d)
  | fz => exact ⟨n, v, e1, hv⟩
theorem tLC_of {cap : List (Option Nat)} {fi : Ev → RI} {b : B1} {c e : Ev → R} {S : List Nat} {Q : VK} (hB : BOnly S b) (hS : ∀ i ∈ S, cap[i]? = some none) (h : tV K F0 H0 Ψ (eComp cap fi b c e) σ H Q) :
    tLC cap (tVI K F0 H0 Ψ fi) (gV K F0 H0 b) (tVT K F0 H0 Psi0 c) (tV K F0 H0 Psi0 e) σ H Q := by
  obtain ⟨F, ev, fi', m⟩ := h
  refine ⟨F, ev, fi', ?_⟩
  unfold eComp at m
  cases h1 : fi ev with
  | no => rw [h1] at m; exact m
  | ex C => rw [h1] at m; exact m
  | ok ds =>
    rw [h1] at m
    intro F1 H1 J s y Dd hD
    simp only [compR] at m
    by_cases hl : ds.length < LIM
    · rw [if_pos hl] at m
      cases h2 : compE b c e (capE cap ev) ds with
      | none => rw [h2] at m; exact m.elim
      | some l =>
        rw [h2] at m
        have hD0 : H0 Dd = none := (fi'.st.trans s).keep.free hD
        have hDH : H Dd = none := s.keep.free hD
        have hDF : F1 Dd = none := s.sub.free hD
        have up1 : ∀ G : Hp, G Dd = none → Same G H1 → Same G (upd H1 Dd (.lst [])) := fun G n s b u q => by
          rw [upd_ne]; exact s b u q
          rintro rfl; rw [n] at q; cases q
        refine ⟨fun i m ys σ' H' => m = ds.length - i ∧ i ≤ ds.length ∧ ∃ F2 es rest, FI K F0 H0 F2 H' (capE cap ev) σ' ∧ Same F1 F2 ∧ Step F H F2 H' ∧ H' Dd = some (.lst ys) ∧ F2 Dd = none ∧ Reps K F2 es ys ∧
            compE b c e (capE cap ev) (ds.drop i) = some rest ∧ es ++ rest = l ∧ es.length ≤ i, ?_, ?_⟩
        · refine ⟨ds.length, by simp, Nat.zero_le _, F1, [], l, ((fi'.later s).cap cap).hid (fun i d => capE_no cap ev) hD0 hDF, .refl _, ⟨s.up, up1 _ hDF s.sub, up1 _ hDH s.keep, s.new⟩, upd_same, hDF, .nil, h2, rfl, Nat.zero_le _⟩
        · rintro i m' ys σ' H' ⟨rfl, hi, F2, es, rest, f2, u2, st2, hd2, hf2, rs2, ce, el, hel⟩
          refine ⟨hd2, by rw [← rs2.length]; exact Nat.lt_of_le_of_lt (Nat.le_trans hel hi) (Nat.lt_of_lt_of_le hl sizeLine_ge), ?_⟩
          by_cases hlt : i < ds.length
          · refine .inr ⟨y.go i H' (u2.trans f2.sub) hlt, fun x H2 yl => ?_⟩
            obtain ⟨F3, d, s3, ed, r⟩ := y.yld i F2 H' x H2 u2 f2.sub hlt yl
            have edr : ds.drop i = d :: ds.drop (i + 1) := by
              obtain ⟨h, e'⟩ := List.getElem?_eq_some_iff.mp ed
              rw [← e']
              exact List.drop_eq_getElem_cons h
            rw [edr] at ce
            simp only [compE] at ce
            cases q1 : b d (capE cap ev) with
            | none => rw [q1] at ce; cases ce
            | some ev1 =>
              rw [q1] at ce
              dsimp only at ce
              refine ⟨F3, capE cap ev, d, ev1, f2.later s3, r, q1, fun H'' σ3 hH f3 => ?_⟩
              subst hH
              obtain ⟨lb, gb⟩ := hB _ _ _ q1
              -- the block's names from around are as they were
              have weak : ∀ {F4 H4 : Hp}, FI K F0 H0 F4 H4 ev1 σ3 → FI K F0 H0 F4 H4 (capE cap ev) σ3 := fun f4 => f4.weak lb.symm fun j k d' e' => by
                by_cases hj : j ∈ S
                · have := hS j hj
                  unfold capE at e'
                  rw [List.getElem?_map, this] at e'
                  cases e'
                · rw [gb j hj]; exact e'
              refine ⟨F3, ev1, f3, ?_⟩
              cases q2 : c ev1 with
              | no => rw [q2] at ce; cases ce
              | ex C => rw [q2] at ce; cases ce
              | ok k2 d2 =>
                rw [q2] at ce
                cases d2 with
                | bl t =>
                  intro F4 H4 s4
                  have st34 := s3.trans s4
                  have hd4 : H4 Dd = some (.lst ys) := st34.keep _ _ hd2
                  have hf4 : F4 Dd = none := st34.unfz hd2 hf2
                  cases t with
                  | false =>
                    rw [if_neg Bool.false_ne_true]
                    simp only [Bool.false_eq_true, if_false] at ce
                    exact ⟨ds.length - (i + 1), by omega, rfl, hlt, F4, es, rest, weak (f3.later s4), u2.trans st34.up, st2.trans st34, hd4, hf4, rs2.mono st34.up, ce, el, Nat.le_succ_of_le hel⟩
                  | true =>
                    rw [if_pos rfl]
                    simp only [if_true] at ce
                    refine ⟨F4, ev1, f3.later s4, ?_⟩
                    cases q3 : e ev1 with
                    | no => rw [q3] at ce; cases ce
                    | ex C => rw [q3] at ce; cases ce
                    | ok k3 x3 =>
                      rw [q3] at ce
                      intro F5 v5 H5 p5
                      have go : ∀ F6, Post K F4 H4 .fz x3 F6 v5 H5 → ((compE b c e (capE cap ev) (ds.drop (i + 1))).map (x3 :: ·)) = some rest → H5 Dd = some (.lst ys) ∧ ∃ m', m' < ds.length - i ∧ m' = ds.length - (i + 1) ∧ i + 1 ≤ ds.length ∧ ∃ F2 es rest, FI K F0 H0 F2 (upd H5 Dd (.lst (ys ++ [v5]))) (capE cap ev) σ3 ∧ Same F1 F2 ∧ Step F H F2 (upd H5 Dd (.lst (ys ++ [v5]))) ∧ (upd H5 Dd (.lst (ys ++ [v5]))) Dd = some (.lst (ys ++ [v5])) ∧ F2 Dd = none ∧ Reps K F2 es (ys ++ [v5]) ∧
                          compE b c e (capE cap ev) (ds.drop (i + 1)) = some rest ∧ es ++ rest = l ∧ es.length ≤ i + 1 := fun F6 p6 ce => by
                        have st := st34.trans p6.st
                        have hd6 : H5 Dd = some (.lst ys) := st.keep _ _ hd2
                        have hf6 : F6 Dd = none := st.unfz hd2 hf2
                        cases q4 : compE b c e (capE cap ev) (ds.drop (i + 1)) with
                        | none => rw [q4] at ce; cases ce
                        | some rest' =>
                          rw [q4] at ce
                          have ce : x3 :: rest' = rest := Option.some.inj ce
                          have S2 := st2.trans st
                          have ne : ∀ {G : Hp}, G Dd = none → Same G H5 → Same G (upd H5 Dd (.lst (ys ++ [v5]))) := fun {G} n s b u q => by
                            rw [upd_ne]; exact s b u q
                            rintro rfl; rw [n] at q; cases q
                          refine ⟨hd6, ds.length - (i + 1), by omega, rfl, hlt, F6, es ++ [x3], rest', (weak ((f3.later s4).later p6.st)).hid (fun i d => capE_no cap ev) hD0 hf6, u2.trans st.up, ⟨S2.up, ne hf6 S2.sub, ne hDH S2.keep, S2.new⟩, upd_same, hf6, (rs2.mono st.up).app (.cons p6.val .nil), rfl, ?_, by simpa using hel⟩
                          rw [← el, ← ce]; simp
                      cases k3 with
                      | bo => cases ce
                      | fz => exact go F5 p5 ce
                      | ow => obtain ⟨F6, p6⟩ := p5.frz; exact go F6 p6 ce
                | _ => cases ce
          · have e2 : i = ds.length := by omega
            subst e2
            rw [List.drop_length] at ce
            cases ce
            refine .inl ⟨y.stop _ H' (u2.trans f2.sub) (Nat.le_refl _), ?_⟩
            rw [List.append_nil] at el
            subst el
            exact m F2 _ H' ⟨st2, Dd, rfl, hDH, hf2, ys, hd2, rs2⟩
    · rw [if_neg hl] at m; exact m.elim
end
end L3
set_option Elab.async false
set_option linter.all false
set_option maxRecDepth 100000
namespace L3
open PySem L2
noncomputable def capOk (N N' : List Str) (cap : List (Option Nat)) (names : List (Str × NameKind)) : Bool := (List.range cap.length).all fun i => match cap[i]? with
  | some (some j) => (match N'[i]?, N[j]? with
    | some x, some y => decide (x = y) && decide (names.lookup x = some .free)
    | _, _ => false)
  | _ => true
structure CompSc (osc : Scope) (N N' : List Str) (cap : List (Option Nat)) (scope : Scope) : Prop where
  kind : scope.kind = .function
  nocell : ∀ y ∈ scope.names, y.2 ≠ .cell
  names : ∀ y ∈ scope.names, y.2 = .local → scope.names.lookup y.1 = some .local
  fr : ∀ y ∈ scope.names, y.2 = .free → osc.names.lookup y.1 = some .cell ∨ osc.names.lookup y.1 = some .free
  len : cap.length = N'.length
  cap : capOk N N' cap scope.names = true
theorem CompSc.to {X : Cx} {osc : Scope} {N N' : List Str} {cap : List (Option Nat)} {scope : Scope} (h : CompSc osc N N' cap scope) (h1 : X.env.scope = osc) (h2 : X.N = N) : CompScope X N' cap scope := by
  subst h1; subst h2
  refine ⟨h.kind, h.nocell, h.names, h.fr, h.len, fun i j e => ?_⟩
  have hi : i < cap.length := (List.getElem?_eq_some_iff.mp e).1
  have := List.all_eq_true.mp h.cap i (by simpa using hi)
  rw [e] at this
  dsimp only at this
  split at this
  · rename_i x y e1 e2
    rw [Bool.and_eq_true] at this
    have e3 : x = y := of_decide_eq_true this.1
    subst e3
    exact ⟨x, e1, e2, of_decide_eq_true this.2⟩
  · cases this
section
variable {X : Cx} {F0 H0 : Hp} {Ψ : Psi} {N N' : List Str} {osc scope : Scope} {cap : List (Option Nat)} {elt target iter c : Expr} {ifs : List Expr} {fi : Ev → RI} {b : B1} {f e : Ev → R} {S : List Nat} {pos : Pos}
noncomputable def VF (X : Cx) (F0 H0 : Hp) (ifs : List Expr) (f : Ev → R) : Prop := PIfs X ifs (tVT X.K F0 H0 Psi0 f)
theorem vf_nil : VF X F0 H0 [] (conR (.bl true)) := fun pins s σ H Q I h => by
  obtain ⟨F, ev, fi, m⟩ := h
  exact pifs_nil pins s σ H Q I (m F H fi.refl)
theorem vf_one (h : VT X F0 H0 Psi0 c f) : VF X F0 H0 [c] f := pifs_one h
theorem v_comp (N' : List Str) (cap : List (Option Nat)) (S : List Nat) (hX : X.env.scope = osc) (hN : X.N = N) (C : CompSc osc N N' cap scope) (hcalm : X.calm = true) (hi : VI X F0 H0 Ψ target iter fi) (hB : BOnly S b)
    (hb : ∀ C s H fp, VG (cxC X N' scope C s H fp) F0 H0 target b ∧ VF (cxC X N' scope C s H fp) F0 H0 ifs f ∧ VE (cxC X N' scope C s H fp) F0 H0 Psi0 elt e) (hS : ∀ i ∈ S, cap[i]? = some none := by decide)
    (hs : ∀ x, foldedSetIterable iter X.env x = pure x := by intro _; rfl) : VE X F0 H0 Ψ (.ListComp elt [⟨target, iter, ifs, 0⟩] scope pos) (eComp cap fi b f e) :=
  (pe_lcomp (g := gV X.K F0 H0 b) (tc := tVT X.K F0 H0 Psi0 f) (te := tV X.K F0 H0 Psi0 e) hcalm (C.to hX hN) hi hb hs).mono fun _ _ _ q => tLC_of hB hS q
theorem tSetC_of {K : PySem.W.Frag} {i : Nat} {cap : List (Option Nat)} {fi : Ev → RI} {b : B1} {c e : Ev → R} {S : List Nat} {E : Ends} {σ : L2.St} {H : Hp} (hB : BOnly S b) (hS : ∀ i ∈ S, cap[i]? = some none) (h : tSv K F0 H0 Ψ (setG i (eComp cap fi b c e)) E σ H) :
    tAsg (tLC cap (tVI K F0 H0 Ψ fi) (gV K F0 H0 b) (tVT K F0 H0 Psi0 c) (tV K F0 H0 Psi0 e)) (gName i) E σ H := tLC_of hB hS (tSet_of h)
theorem vs_comp (i : Nat) {x : Str} {py spos : Pos} (N' : List Str) (cap : List (Option Nat)) (S : List Nat) (hX : X.env.scope = osc) (hN : X.N = N) (nd : X.N.Nodup) (C : CompSc osc N N' cap scope) (hcalm : X.calm = true) (hi : VI X F0 H0 Ψ target iter fi) (hB : BOnly S b)
    (hb : ∀ C s H fp, VG (cxC X N' scope C s H fp) F0 H0 target b ∧ VF (cxC X N' scope C s H fp) F0 H0 ifs f ∧ VE (cxC X N' scope C s H fp) F0 H0 Psi0 elt e) (hS : ∀ i ∈ S, cap[i]? = some none := by decide)
    (hix : X.N[i]? = some x := by rfl) (hx : Loc X.env.scope x := by first | exact Or.inl rfl | exact Or.inr rfl) (hf : X.fn x = true ∨ X.env.scope.names.lookup x = some .local := by first | exact .inl rfl | exact .inr rfl)
    (hsw : swapsWith (.ListComp elt [⟨target, iter, ifs, 0⟩] scope pos) (some (.Name x py)) spos.line X.env = pure true := by rfl)
    (hs : ∀ x, foldedSetIterable iter X.env x = pure x := by intro _; rfl) : VS X F0 H0 Ψ (.Assign [.Name x py] (.ListComp elt [⟨target, iter, ifs, 0⟩] scope pos) spos) (setG i (eComp cap fi b f e)) :=
  (ps_lcomp (g := gV X.K F0 H0 b) (tc := tVT X.K F0 H0 Psi0 f) (te := tV X.K F0 H0 Psi0 e) hcalm (C.to hX hN) hi hb (pg_name nd hix hx hf) hsw hs).mono fun _ _ _ q => tSetC_of hB hS q
end
mutual
noncomputable def py : D → Option PyData
  | .non => some .none
  | .bl b => some (.bool b)
  | .int i => some (.int i)
  | .str x => if PyData.strOk x = true then some (.str x) else none
  | .tup xs => (pyL xs).map .tuple
  | .lst xs => (pyL xs).map .list
  | .scr xs => (pyL xs).map .list
  | .dK _ _ => none
  | .dT _ _ => none
  | .obj _ _ _ => none
  | .ty _ => none
noncomputable def pyL : List D → Option (List PyData)
  | [] => some []
  | d :: ds => (py d).bind fun p => (pyL ds).map (p :: ·)
end
section
variable {X : Cx} {pins : List (Addr × Obj)} {σ : L2.St} {H : Hp} {s : Shared}
mutual
theorem Rep.reads (I : Inv X pins σ H s) : ∀ {d : D} {v : V} {u : Value} {p : PyData}, Rep X.K H d v → RelV v u → py d = some p → ∃ as, Reads s.heap u p as ∧ p.canLay0 = true
  | .non, _, _, _, h, r, e => by rw [Rep] at h; subst h; rw [py] at e; cases e; cases r; exact ⟨[], .none, rfl⟩
  | .bl b, _, _, _, h, r, e => by rw [Rep] at h; subst h; rw [py] at e; cases e; cases r; exact ⟨[], .bool b, rfl⟩
  | .int i, _, _, _, h, r, e => by rw [Rep] at h; subst h; rw [py] at e; cases e; obtain ⟨t, rfl⟩ := r; exact ⟨[], .int i t, rfl⟩
  | .str x, _, _, _, h, r, e => by
    rw [Rep] at h; subst h; rw [py] at e
    split at e
    · rename_i hs; cases e; obtain ⟨t, rfl⟩ := r; exact ⟨[], .str x t, by simpa [PyData.canLay0] using hs⟩
    · cases e
  | .tup xs, _, _, _, h, r, e => by
    rw [Rep] at h; obtain ⟨a, vs, rfl, h2, h3⟩ := h
    rw [py] at e
    cases q : pyL xs with
    | none => rw [q] at e; cases e
    | some ps =>
      rw [q] at e; cases e
      cases r
      obtain ⟨its, rv, ⟨o, ho, hc, n, hd⟩, hz⟩ := I.tuple (SqT.of h2)
      obtain ⟨as, h4, h5⟩ := Reps.reads I h3 rv q
      exact ⟨as, .tuple ho hc hd (by simpa using h4), by simpa [PyData.canLay0] using h5⟩
  | .lst xs, _, _, _, h, r, e => by
    rw [Rep] at h; obtain ⟨a, vs, rfl, h2, h3⟩ := h
    rw [py] at e
    cases q : pyL xs with
    | none => rw [q] at e; cases e
    | some ps =>
      rw [q] at e; cases e
      cases r
      obtain ⟨its, rv, pl, hz⟩ := I.list (SqL.of h2)
      obtain ⟨o, ho, hc, n, hd⟩ := pl.isList
      obtain ⟨as, h4, h5⟩ := Reps.reads I h3 rv q
      exact ⟨a :: as, .list ho hc hd (by simpa using h4), by simpa [PyData.canLay0] using h5⟩
  | .scr xs, _, _, _, h, r, e => by
    rw [Rep] at h; obtain ⟨a, vs, rfl, h2, h3⟩ := h
    rw [py] at e
    cases q : pyL xs with
    | none => rw [q] at e; cases e
    | some ps =>
      rw [q] at e; cases e
      cases r
      obtain ⟨its, rv, pl, hz⟩ := I.list h2
      obtain ⟨o, ho, hc, n, hd⟩ := pl.isList
      obtain ⟨as, h4, h5⟩ := Reps.reads I h3 rv q
      exact ⟨a :: as, .list ho hc hd (by simpa using h4), by simpa [PyData.canLay0] using h5⟩
  | .dK _ _, _, _, _, _, _, e => by rw [py] at e; cases e
  | .dT _ _, _, _, _, _, _, e => by rw [py] at e; cases e
  | .obj _ _ _, _, _, _, _, _, e => by rw [py] at e; cases e
  | .ty _, _, _, _, _, _, e => by rw [py] at e; cases e
theorem Reps.reads (I : Inv X pins σ H s) : ∀ {ds : List D} {vs : List V} {us : List Value} {ps : List PyData}, Reps X.K H ds vs → Vals vs us → pyL ds = some ps → ∃ as, ReadsAll s.heap us ps as ∧ PyData.canLayAll0 ps = true
  | [], _, _, _, h, r, e => by rw [h.unnil] at r; cases r; rw [pyL] at e; cases e; exact ⟨[], .nil, rfl⟩
  | d :: ds, _, _, _, h, r, e => by
    obtain ⟨v, t, rfl, h1, h2⟩ := h.uncons
    cases r with
    | cons r1 r2 =>
      rw [pyL] at e
      cases q1 : py d with
      | none => rw [q1] at e; cases e
      | some p =>
        rw [q1] at e
        cases q2 : pyL ds with
        | none => rw [q2] at e; cases e
        | some ps =>
          rw [q2] at e
          cases e
          obtain ⟨as, g1, g2⟩ := Rep.reads I h1 r1 q1
          obtain ⟨bs, g3, g4⟩ := Reps.reads I h2 r2 q2
          exact ⟨as ++ bs, .cons g1 g3, by simp [PyData.canLayAll0, g2, g4]⟩
end
end
noncomputable def DEEP : Nat := 60
noncomputable def eqD : G2 := fun a b => match py a, py b with
  | some p, some q => if p.depth ≤ DEEP then some (.fz, .bl (p.eqv q)) else none
  | _, _ => none
noncomputable def neD : G2 := fun a b => match py a, py b with
  | some p, some q => if p.depth ≤ DEEP then some (.fz, .bl (!p.eqv q)) else none
  | _, _ => none
noncomputable def itemsD : D → Option (List D)
  | .lst xs => some xs
  | .scr xs => some xs
  | .tup xs => some xs
  | _ => none
noncomputable def inL : G2 := fun a b => match py a, (itemsD b).bind pyL with
  | some p, some qs => if p.depth ≤ DEEP then some (.fz, .bl (qs.any fun q => q.eqv p)) else none
  | _, _ => none
noncomputable def notInL : G2 := fun a b => match py a, (itemsD b).bind pyL with
  | some p, some qs => if p.depth ≤ DEEP then some (.fz, .bl (!qs.any fun q => q.eqv p)) else none
  | _, _ => none
section
variable {X : Cx}
noncomputable def rP (K : PySem.W.Frag) (g : G2) : R2 := fun x y H Q => ∃ dx dy d, Rep K H dx x ∧ Rep K H dy y ∧ g dx dy = some (.fz, .bl d) ∧ Q (.bl d) H
theorem ok_P {K : PySem.W.Frag} {g : G2} (hg : ∀ a b k d, g a b = some (k, d) → ∃ t, k = .fz ∧ d = .bl t) : OkOp K (rP K g) g := by
  intro F H dx dy x y k d Q s rx ry e q
  obtain ⟨t, rfl, rfl⟩ := hg _ _ _ _ e
  exact ⟨dx, dy, t, rx.rep s, ry.rep s, e, q F _ H (.pure (.refl s) (by rw [Rep]))⟩
theorem eqD_bl (a b : D) (k : Kd) (d : D) (e : eqD a b = some (k, d)) : ∃ t, k = .fz ∧ d = .bl t := by
  unfold eqD at e; split at e
  · split at e
    · cases e; exact ⟨_, rfl, rfl⟩
    · cases e
  · cases e
theorem neD_bl (a b : D) (k : Kd) (d : D) (e : neD a b = some (k, d)) : ∃ t, k = .fz ∧ d = .bl t := by
  unfold neD at e; split at e
  · split at e
    · cases e; exact ⟨_, rfl, rfl⟩
    · cases e
  · cases e
theorem inL_bl (a b : D) (k : Kd) (d : D) (e : inL a b = some (k, d)) : ∃ t, k = .fz ∧ d = .bl t := by
  unfold inL at e; split at e
  · split at e
    · cases e; exact ⟨_, rfl, rfl⟩
    · cases e
  · cases e
theorem notInL_bl (a b : D) (k : Kd) (d : D) (e : notInL a b = some (k, d)) : ∃ t, k = .fz ∧ d = .bl t := by
  unfold notInL at e; split at e
  · split at e
    · cases e; exact ⟨_, rfl, rfl⟩
    · cases e
  · cases e
theorem c_eq (hu : X.A.units + 100 < cLine) : CmpOk X .Eq eqD := by
  refine ⟨rP X.K eqD, fun pins s σ H x y v u Q I rx ry h => ?_, ok_P eqD_bl⟩
  obtain ⟨dx, dy, t, hx, hy, e, q⟩ := h
  unfold eqD at e
  split at e
  · rename_i p q' e1 e2
    split at e
    · rename_i hd
      have e' : PyData.eqv p q' = t := by injection e with e; injection e with _ e; injection e
      obtain ⟨as, r1, c1⟩ := hx.reads I rx e1
      obtain ⟨bs, r2, c2⟩ := hy.reads I ry e2
      refine SeqAt.compareEq_reads r1 r2 c1 c2 (by have := Nat.min_le_left p.depth q'.depth; unfold DEEP at hd; omega) ?_
      rw [e']
      exact ⟨.bl t, H, I, rfl, q⟩
    · cases e
  · cases e
theorem c_ne (hu : X.A.units + 100 < cLine) : CmpOk X .NotEq neD := by
  refine ⟨rP X.K neD, fun pins s σ H x y v u Q I rx ry h => ?_, ok_P neD_bl⟩
  obtain ⟨dx, dy, t, hx, hy, e, q⟩ := h
  unfold neD at e
  split at e
  · rename_i p q' e1 e2
    split at e
    · rename_i hd
      have e' : (!PyData.eqv p q') = t := by injection e with e; injection e with _ e; injection e
      obtain ⟨as, r1, c1⟩ := hx.reads I rx e1
      obtain ⟨bs, r2, c2⟩ := hy.reads I ry e2
      refine SeqAt.compareNe_reads r1 r2 c1 c2 (by have := Nat.min_le_left p.depth q'.depth; unfold DEEP at hd; omega) ?_
      rw [e']
      exact ⟨.bl t, H, I, rfl, q⟩
    · cases e
  · cases e
theorem items_reads {pins : List (Addr × Obj)} {σ : L2.St} {H : Hp} {s : Shared} (I : Inv X pins σ H s) {d : D} {v : V} {u : Value} {xs : List D} {ps : List PyData} (h : Rep X.K H d v) (r : RelV v u) (e : itemsD d = some xs) (ep : pyL xs = some ps) :
    PyData.canLayAll0 ps = true ∧ ((∃ as, Reads s.heap u (.list ps) as) ∨ ∃ as, Reads s.heap u (.tuple ps) as) := by
  cases d <;> simp only [itemsD] at e <;> first | cases e | skip
  · obtain ⟨as, h1, h2⟩ := h.reads I r (show py (.tup xs) = some (.tuple ps) by rw [py, ep]; rfl)
    exact ⟨by simpa [PyData.canLay0] using h2, .inr ⟨as, h1⟩⟩
  · obtain ⟨as, h1, h2⟩ := h.reads I r (show py (.lst xs) = some (.list ps) by rw [py, ep]; rfl)
    exact ⟨by simpa [PyData.canLay0] using h2, .inl ⟨as, h1⟩⟩
  · obtain ⟨as, h1, h2⟩ := h.reads I r (show py (.scr xs) = some (.list ps) by rw [py, ep]; rfl)
    exact ⟨by simpa [PyData.canLay0] using h2, .inl ⟨as, h1⟩⟩
theorem c_inL (hu : X.A.units + 100 < cLine) : CmpOk X .In inL := by
  refine ⟨rP X.K inL, fun pins s σ H x y v u Q I rx ry h => ?_, ok_P inL_bl⟩
  obtain ⟨dx, dy, t, hx, hy, e, q⟩ := h
  unfold inL at e
  split at e
  · rename_i p qs e1 e2
    split at e
    · rename_i hd
      have e' : (qs.any fun q => q.eqv p) = t := by injection e with e; injection e with _ e; injection e
      cases q1 : itemsD dy with
      | none => rw [q1] at e2; cases e2
      | some xs =>
        rw [q1] at e2
        obtain ⟨as, r1, c1⟩ := hx.reads I rx e1
        obtain ⟨c2, r2⟩ := items_reads I hy ry q1 e2
        have hu' : X.A.units + 1 + min (PyData.depthAll qs) p.depth < cLine := by have := Nat.min_le_right (PyData.depthAll qs) p.depth; unfold DEEP at hd; omega
        rcases r2 with ⟨bs, r2⟩ | ⟨bs, r2⟩
        · exact SeqAt.in_list_reads r2 r1 c2 c1 hu' (by rw [e']; exact ⟨.bl t, H, I, rfl, q⟩)
        · exact SeqAt.in_tuple_reads r2 r1 c2 c1 hu' (by rw [e']; exact ⟨.bl t, H, I, rfl, q⟩)
    · cases e
  · cases e
theorem c_notinL (hu : X.A.units + 100 < cLine) : CmpOk X .NotIn notInL := by
  refine ⟨rP X.K notInL, fun pins s σ H x y v u Q I rx ry h => ?_, ok_P notInL_bl⟩
  obtain ⟨dx, dy, t, hx, hy, e, q⟩ := h
  unfold notInL at e
  split at e
  · rename_i p qs e1 e2
    split at e
    · rename_i hd
      have e' : (!qs.any fun q => q.eqv p) = t := by injection e with e; injection e with _ e; injection e
      cases q1 : itemsD dy with
      | none => rw [q1] at e2; cases e2
      | some xs =>
        rw [q1] at e2
        obtain ⟨as, r1, c1⟩ := hx.reads I rx e1
        obtain ⟨c2, r2⟩ := items_reads I hy ry q1 e2
        have hu' : X.A.units + 1 + min (PyData.depthAll qs) p.depth < cLine := by have := Nat.min_le_right (PyData.depthAll qs) p.depth; unfold DEEP at hd; omega
        rcases r2 with ⟨bs, r2⟩ | ⟨bs, r2⟩
        · exact SeqAt.notIn_list_reads r2 r1 c2 c1 hu' (by rw [e']; exact ⟨.bl t, H, I, rfl, q⟩)
        · exact SeqAt.notIn_tuple_reads r2 r1 c2 c1 hu' (by rw [e']; exact ⟨.bl t, H, I, rfl, q⟩)
    · cases e
  · cases e
end
theorem room_u {k : Nat} {A : Around} (hr : Room k A) : A.units + 100 < cLine := by have := hr.un; omega
end L3
set_option Elab.async false
set_option linter.all false
set_option maxRecDepth 100000
namespace L3
open PySem L2
noncomputable def tyN : D → Option String
  | .non => some "NoneType"
  | .bl _ => some "bool"
  | .int _ => some "int"
  | .str _ => some "str"
  | .tup _ => some "tuple"
  | .lst _ => some "list"
  | .dK _ _ => some "dict"
  | .dT _ _ => some "dict"
  | _ => none
noncomputable def isT (T : String) : D → Bool
  | .bl _ => T == "bool" || T == "int"
  | .int _ => T == "int"
  | .str _ => T == "str"
  | .tup _ => T == "tuple"
  | .lst _ => T == "list"
  | .dK _ _ => T == "dict"
  | .dT _ _ => T == "dict"
  | _ => false
noncomputable def tysOk : List String := ["int", "bool", "str", "tuple", "list", "dict"]
noncomputable def isiD : GN
  | [d, .ty T] => if (tyN d).isSome = true ∧ T ∈ tysOk then some (.fz, .bl (isT T d)) else none
  | _ => none
section
variable {K : PySem.W.Frag} {X : Cx}
theorem kit_ok {d : D} {t T : String} (h : tyN d = some t) (hT : T ∈ tysOk) : PySem.W.kitOne K (.type t) (.type T) = some (isT T d) := by
  simp only [tysOk, List.mem_cons, List.not_mem_nil, or_false] at hT
  cases d <;> simp only [tyN] at h <;> cases h <;> (rcases hT with rfl | rfl | rfl | rfl | rfl | rfl <;> rfl)
noncomputable def rIsi (K : PySem.W.Frag) : List V → Hp → VK → Prop := fun xs H Q => ∃ x tn T b, xs = [x, .ty T] ∧ TyOf K H x (.type tn) ∧ PySem.W.kitOne K (.type tn) (.type T) = some b ∧ Q (.bl b) H
theorem call_isi : CallR X (.builtin "isinstance") (rIsi X.K) := by
  intro pins s σ H xs us Q I r h
  obtain ⟨x, tn, T, b, rfl, ty, e, q⟩ := h
  obtain ⟨u, w', rfl, rx, rw'⟩ := vals2 r
  cases rw'
  exact isinst_ok I rx ty e fun tk => ⟨.bl b, H, I.tok tk, rfl, q⟩
theorem RdV.tyOf {F H : Hp} {d : D} {v : V} {t : String} (s : Same F H) (h : RdV K F H d v) (e : tyN d = some t) : TyOf K H v (.type t) := by
  cases d <;> simp only [tyN] at e <;> cases e
  · rw [h.non]; exact .non
  · rw [h.bl]; exact .bl _
  · rw [h.int]; exact .int _
  · rw [h.str]; exact .str _
  · obtain ⟨a, vs, rfl, h1, _⟩ := h.tup s; exact .tup h1
  · obtain ⟨a, vs, rfl, h1, _⟩ := h.lst s; exact .lst h1
  · rcases h with h | ⟨a, rfl, vs, h1, _⟩
    · rw [Rep] at h; obtain ⟨a, vs, rfl, h1, _⟩ := h; exact .dK (s _ _ h1)
    · exact .dK h1
  · rcases h with h | ⟨a, rfl, vs, h1, _⟩
    · rw [Rep] at h; obtain ⟨a, vs, rfl, h1, _⟩ := h; exact .dT (s _ _ h1)
    · exact .dT h1
theorem ok_isi : OkCall K (rIsi K) isiD := by
  intro F H ds vs k d Q s r e q
  unfold isiD at e
  split at e
  · rename_i d0 T
    split at e
    · rename_i hc
      cases e
      obtain ⟨v, _, rfl, rx, u, _, rfl, ry, rfl⟩ := r
      obtain ⟨t, ht⟩ := Option.isSome_iff_exists.mp hc.1
      exact ⟨v, t, T, _, by rw [ry.ty], rx.tyOf s ht, kit_ok ht hc.2, q F _ H (.pure (.refl s) (by rw [Rep]))⟩
    · cases e
  · cases e
variable {F0 H0 : Hp} {Ψ : Psi} {a b c e : Expr} {es : List Expr} {f f1 f2 f3 : Ev → R} {fs : Ev → RA} {pos p : Pos}
theorem v_ty {T : String} {x : Str} (hm : X.mg x = none) (hv : bootBuiltins x = some (.type T) := by rfl) (hg : Gl X x := by rfl) (hn : x ≠ "__name__" := by decide) (hd : (x == ("__debug__" : Str)) = false := by decide) : VE X F0 H0 Ψ (.Name x pos) (conR (.ty T)) :=
  (pe_bltn (v := .ty T) hg hm hv rfl hn hd).mono fun _ _ _ h => tC_of (by rw [Rep]) h
theorem v_isi (hm : X.mg "isinstance" = none) (ha : VA X F0 H0 Ψ (e :: es) fs) (hgl : Gl X "isinstance" := by rfl) (he : starEach (e :: es) X.env = (false, eval e X.env) :: starEach es X.env := by rfl) (hpl : (backTo pos (starEach es X.env)).any (·.1) = false := by rfl) : VE X F0 H0 Ψ (.Call (.Name "isinstance" p) (e :: es) [] pos) (eCall isiD fs) := v_callB call_isi ok_isi hm (by rfl) ha hgl (by decide) (by decide) he hpl
theorem v_min2 (hc : X.calm = true) (hm : X.mg "min" = none) (ha : VA X F0 H0 Ψ (e :: es) fs) (hgl : Gl X "min" := by rfl) (he : starEach (e :: es) X.env = (false, eval e X.env) :: starEach es X.env := by rfl) (hpl : (backTo pos (starEach es X.env)).any (·.1) = false := by rfl) : VE X F0 H0 Ψ (.Call (.Name "min" p) (e :: es) [] pos) (eCall min2D fs) := v_callB (call_min2 hc) ok_min2 hm (by rfl) ha hgl (by decide) (by decide) he hpl
theorem v_max2 (hc : X.calm = true) (hm : X.mg "max" = none) (ha : VA X F0 H0 Ψ (e :: es) fs) (hgl : Gl X "max" := by rfl) (he : starEach (e :: es) X.env = (false, eval e X.env) :: starEach es X.env := by rfl) (hpl : (backTo pos (starEach es X.env)).any (·.1) = false := by rfl) : VE X F0 H0 Ψ (.Call (.Name "max" p) (e :: es) [] pos) (eCall max2D fs) := v_callB (call_max2 hc) ok_max2 hm (by rfl) ha hgl (by decide) (by decide) he hpl
end
end L3
set_option Elab.async false
set_option linter.all false
set_option maxRecDepth 100000
namespace L3
open PySem L2
section
variable {κ : Type} [DecidableEq κ]
noncomputable def dGet : List κ → List D → κ → Option D
  | k :: ks, x :: xs, q => if k = q then some x else dGet ks xs q
  | _, _, _ => none
noncomputable def dPutK (ks : List κ) (k : κ) : List κ := if k ∈ ks then ks else ks ++ [k]
noncomputable def dPutV (ks : List κ) (xs : List D) (k : κ) (d : D) : List D := if k ∈ ks then List.zipWith (fun k' x => if k' = k then d else x) ks xs else xs ++ [d]
variable {K : PySem.W.Frag} {F : Hp}
theorem val_get {k : κ} : ∀ {ks : List κ} {xs : List D} {vs : List V}, Reps K F xs vs → ks.length = vs.length → match dGet ks xs k with
    | some d => ∃ v, valV (ks.zip vs) k = some v ∧ Rep K F d v
    | none => valV (ks.zip vs) k = none
  | [], xs, vs, _, _ => by simp [dGet, valV_nil]
  | q :: ks, [], vs, r, h => by rw [r.unnil] at h; simp at h
  | q :: ks, x :: xs, _, r, h => by
    obtain ⟨v, vs, rfl, rv, rs⟩ := r.uncons
    rw [dGet, List.zip_cons_cons]
    by_cases e : q = k
    · rw [if_pos e, valV_pos e]; exact ⟨v, rfl, rv⟩
    · rw [if_neg e, valV_neg e]; exact val_get rs (by simpa using h)
theorem val_some {k : κ} {ks : List κ} {xs : List D} {vs : List V} {d : D} (r : Reps K F xs vs) (h : ks.length = vs.length) (e : dGet ks xs k = some d) : ∃ v, valV (ks.zip vs) k = some v ∧ Rep K F d v := by
  have := val_get (k := k) r h
  rw [e] at this; exact this
theorem val_isSome {k : κ} {ks : List κ} {xs : List D} {vs : List V} (r : Reps K F xs vs) (h : ks.length = vs.length) : (valV (ks.zip vs) k).isSome = (dGet ks xs k).isSome := by
  have := val_get (k := k) r h
  cases e : dGet ks xs k with
  | none => rw [e] at this; rw [this]; rfl
  | some d => rw [e] at this; obtain ⟨v, e, _⟩ := this; rw [e]; rfl
theorem any_zip {k : κ} : ∀ {ks : List κ} {vs : List V}, ks.length = vs.length → ((ks.zip vs).any (fun kv => decide (kv.1 = k)) = true ↔ k ∈ ks)
  | [], _, _ => by simp
  | q :: ks, [], h => by simp at h
  | q :: ks, v :: vs, h => by
    rw [List.zip_cons_cons, List.any_cons, Bool.or_eq_true, any_zip (by simpa using h), List.mem_cons, decide_eq_true_iff]
    exact or_congr eq_comm Iff.rfl
theorem put_zip {k : κ} {ks : List κ} {xs : List D} {vs : List V} {d : D} {v : V} (r : Reps K F xs vs) (h : ks.length = vs.length) (rv : Rep K F d v) :
    ∃ vs', putK (ks.zip vs) k v = (dPutK ks k).zip vs' ∧ (dPutK ks k).length = vs'.length ∧ Reps K F (dPutV ks xs k d) vs' := by
  unfold putK dPutK dPutV
  by_cases hk : k ∈ ks
  · rw [if_pos ((any_zip h).2 hk), if_pos hk, if_pos hk]
    clear hk
    refine ⟨List.zipWith (fun k' x => if k' = k then v else x) ks vs, ?_, by simp [h], ?_⟩
    · clear r
      induction ks generalizing vs with
      | nil => rfl
      | cons q ks ih =>
        cases vs with
        | nil => simp at h
        | cons u vs =>
          simp only [List.zip_cons_cons, List.map_cons, List.zipWith_cons_cons]
          rw [ih (by simpa using h)]
          by_cases e : q = k <;> simp [e]
    · induction ks generalizing vs xs with
      | nil => exact .nil
      | cons q ks ih =>
        cases xs with
        | nil => rw [r.unnil]; exact .nil
        | cons x xs =>
          obtain ⟨u, vs', rfl, ru, rs⟩ := r.uncons
          simp only [List.zipWith_cons_cons]
          refine .cons ?_ (ih rs (by simpa using h))
          by_cases e : q = k <;> simp [e] <;> assumption
  · have hk' : ¬ ((ks.zip vs).any (fun kv => decide (kv.1 = k)) = true) := fun z => hk ((any_zip h).1 z)
    rw [if_neg hk', if_neg hk, if_neg hk]
    exact ⟨vs ++ [v], by rw [List.zip_append h]; rfl, by simp [h], r.app (.cons rv .nil)⟩
end
noncomputable def keyD : D → Option Key
  | .int i => some (.inl i)
  | .str x => some (.inr x)
  | _ => none
noncomputable def keysD : List D → Option (List Key)
  | [] => some []
  | d :: ds => (keyD d).bind fun k => (keysD ds).map (k :: ·)
section
variable {K : PySem.W.Frag} {F H : Hp}
theorem key_is {d : D} {k : Key} {v : V} (e : keyD d = some k) (r : RdV K F H d v) : v = kV k := by
  cases d <;> simp only [keyD] at e <;> cases e
  · rw [r.int]; rfl
  · rw [r.str]; rfl
theorem keys_are : ∀ {ds : List D} {ks : List Key} {vs : List V}, keysD ds = some ks → Reps K F ds vs → vs = ks.map kV
  | [], _, _, e, r => by cases e; rw [r.unnil]; rfl
  | d :: ds, ks, _, e, r => by
    obtain ⟨v, vs, rfl, rv, rs⟩ := r.uncons
    simp only [keysD] at e
    cases e1 : keyD d with
    | none => rw [e1] at e; cases e
    | some k =>
      rw [e1] at e
      cases e2 : keysD ds with
      | none => rw [e2] at e; cases e
      | some ks' =>
        rw [e2] at e; cases e
        rw [keys_are e2 rs, key_is (H := F) e1 (.inl rv)]; rfl
theorem RdV.dK {ks : List Key} {xs : List D} {v : V} (s : Same F H) (h : RdV K F H (.dK ks xs) v) : ∃ a vs, v = .ref a ∧ H a = some (.dK (ks.zip vs)) ∧ ks.length = vs.length ∧ Reps K F xs vs := by
  rcases h with h | ⟨a, h1, vs, h⟩
  · rw [Rep] at h
    obtain ⟨a, vs, h1, h2, h3⟩ := h
    exact ⟨a, vs, h1, s _ _ h2, h3⟩
  · exact ⟨a, vs, h1, h⟩
theorem RdV.dT {ks : List (List Key)} {xs : List D} {v : V} (s : Same F H) (h : RdV K F H (.dT ks xs) v) : ∃ a vs, v = .ref a ∧ H a = some (.dT (ks.zip vs)) ∧ ks.length = vs.length ∧ Reps K F xs vs := by
  rcases h with h | ⟨a, h1, vs, h⟩
  · rw [Rep] at h
    obtain ⟨a, vs, h1, h2, h3⟩ := h
    exact ⟨a, vs, h1, s _ _ h2, h3⟩
  · exact ⟨a, vs, h1, h⟩
noncomputable def lookD : D → D → Option (Option D)
  | .dK ks xs, d => (keyD d).map (dGet ks xs)
  | .dT ks xs, .tup l => (keysD l).map (dGet ks xs)
  | _, _ => none
theorem look_get {a b : D} {o : Option D} {x y : V} (s : Same F H) (e : lookD a b = some o) (rx : RdV K F H a x) (ry : RdV K F H b y) : ∃ p ov, x = .ref p ∧ DGet H p y ov ∧ (∀ d, o = some d → ∃ v, ov = some v ∧ Rep K F d v) ∧ ov.isSome = o.isSome := by
  cases a with
  | dK ks xs =>
    obtain ⟨p, vs, rfl, h1, h2, h3⟩ := rx.dK s
    simp only [lookD] at e
    cases e1 : keyD b with
    | none => rw [e1] at e; cases e
    | some k =>
      rw [e1] at e; cases e
      rw [key_is e1 ry]
      exact ⟨p, _, rfl, .k h1, fun d e => val_some h3 h2 e, val_isSome h3 h2⟩
  | dT ks xs =>
    obtain ⟨p, vs, rfl, h1, h2, h3⟩ := rx.dT s
    cases b with
    | tup l =>
      simp only [lookD] at e
      cases e1 : keysD l with
      | none => rw [e1] at e; cases e
      | some k =>
        rw [e1] at e; cases e
        obtain ⟨q, us, rfl, g1, g2⟩ := ry.tup s
        rw [keys_are e1 g2] at g1
        exact ⟨p, _, rfl, .t h1 g1, fun d e => val_some h3 h2 e, val_isSome h3 h2⟩
    | _ => cases e
  | _ => cases e
noncomputable def getK : G2 := fun a b => match lookD a b with
  | some (some d) => some (.fz, d)
  | _ => none
noncomputable def rDGet : R2 := fun x y H Q => ∃ a v, x = .ref a ∧ DGet H a y (some v) ∧ Q v H
theorem ok_getK : OkOp K rDGet getK := by
  intro F H dx dy x y k d Q s rx ry e q
  unfold getK at e
  split at e
  · rename_i d' e1
    cases e
    obtain ⟨p, ov, rfl, g, h, _⟩ := look_get s e1 rx ry
    obtain ⟨v, rfl, rv⟩ := h d rfl
    exact ⟨p, v, rfl, g, q F v H (.pure (.refl s) rv)⟩
  · cases e
variable {X : Cx}
open PySem.Spec PyProof.Rows in
theorem ix_dict (hu : X.A.units + 1 < cLine) : IxR X rDGet := by
  intro value slice pins s σ H x y v u Q I rx ry h hs
  obtain ⟨a, w', rfl, g, q⟩ := h
  obtain rfl : v = Value.ref a := rx
  have hT := dict_typeIs I g
  unfold subscriptTail
  refine wpAny_bind ?_
  rw [getitemInPython_of_ne hT.not_modules]
  refine wpAny_bind (wpAny_specialOf hT PySem.F.slot_dict_getitem.lookup ?_)
  have fin : wpAny (model X.prog X.w) X.A (subscripted slice false (.ref a) u) (fun r s₃ => wpAny (model X.prog X.w) X.A (letTemporaryGo value (.ref a) r >>= fun _ => pure r) (EP X pins σ Q) X.xe s₃) X.xe s := by
    rw [hs]
    exact wpAny_operating (wpAny_mono (d_getItem hu I g ry fun w'' s' I' rw' => (⟨w', H, I', rw', q⟩ : EP X pins σ Q w'' s')) (fun r s₃ h₃ => wpAny_bind (wpAny_letTemporaryGo (wpAny_pure h₃))) fun _ _ x => x)
  first
    | exact wpAny_pure (wpAny_bind fin)
    | exact wpAny_bind (wpAny_pure (wpAny_bind fin))
    | exact wpAny_bind fin
noncomputable def idxD : G2 := fun a b => (idxL a b).or (getK a b)
theorem v_idx {F0 H0 : Hp} {Ψ : Psi} {a b : Expr} {f1 f2 : Ev → R} {pos : Pos} (hu : X.A.units + 100 < cLine) (ha : VE X F0 H0 Ψ a f1) (hb : VE X F0 H0 Ψ b f2) (hs : PlainIx b := by exact fun _ _ => rfl) : VE X F0 H0 Ψ (.Subscript a b pos) (eOp idxD f1 f2) := (pe_ix (ix_seq.or (ix_dict (by omega))) ha hb hs).mono fun _ _ _ h => tOp_of (ok_idxL.or ok_getK) h
noncomputable def hasK : G2 := fun a b => (lookD b a).map fun o => (.fz, .bl o.isSome)
noncomputable def hasNotK : G2 := fun a b => (lookD b a).map fun o => (.fz, .bl !o.isSome)
theorem ok_hasK : OkOp K (fun y x H Q => ∃ a o, x = .ref a ∧ DGet H a y o ∧ Q (.bl o.isSome) H) hasK := by
  intro F H dx dy x y k d Q s rx ry e q
  unfold hasK at e
  cases e1 : lookD dy dx with
  | none => rw [e1] at e; cases e
  | some o =>
    rw [e1] at e; cases e
    obtain ⟨p, ov, rfl, g, _, h⟩ := look_get s e1 ry rx
    exact ⟨p, ov, rfl, g, by rw [h]; exact q F _ H (.pure (.refl s) (by rw [Rep]))⟩
theorem ok_hasNotK : OkOp K (fun y x H Q => ∃ a o, x = .ref a ∧ DGet H a y o ∧ Q (.bl (!o.isSome)) H) hasNotK := by
  intro F H dx dy x y k d Q s rx ry e q
  unfold hasNotK at e
  cases e1 : lookD dy dx with
  | none => rw [e1] at e; cases e
  | some o =>
    rw [e1] at e; cases e
    obtain ⟨p, ov, rfl, g, _, h⟩ := look_get s e1 ry rx
    exact ⟨p, ov, rfl, g, by rw [h]; exact q F _ H (.pure (.refl s) (by rw [Rep]))⟩
theorem OpR.or' {f : Value → Value → Sem Value} {r r' : R2} (h : OpR X f r) (h' : OpR X f r') : OpR X f (fun x y H Q => r x y H Q ∨ r' x y H Q) := by
  intro pins s σ H x y v u Q I rx ry q
  rcases q with q | q
  · exact h pins s σ H x y v u Q I rx ry q
  · exact h' pins s σ H x y v u Q I rx ry q
theorem op_hasK (hu : X.A.units + 1 < cLine) : OpR X (compareOp .In) (fun y x H Q => ∃ a o, x = .ref a ∧ DGet H a y o ∧ Q (.bl o.isSome) H) := by
  intro pins s σ H x y v u Q I rx ry h
  obtain ⟨a, o, rfl, g, q⟩ := h
  obtain rfl : u = Value.ref a := ry
  exact d_in hu I g rx fun s' I' => ⟨.bl o.isSome, H, I', rfl, q⟩
theorem op_hasNotK (hu : X.A.units + 1 < cLine) : OpR X (compareOp .NotIn) (fun y x H Q => ∃ a o, x = .ref a ∧ DGet H a y o ∧ Q (.bl (!o.isSome)) H) := by
  intro pins s σ H x y v u Q I rx ry h
  obtain ⟨a, o, rfl, g, q⟩ := h
  obtain rfl : u = Value.ref a := ry
  exact d_notIn hu I g rx fun s' I' => ⟨.bl (!o.isSome), H, I', rfl, q⟩
noncomputable def inD : G2 := fun a b => (inL a b).or (hasK a b)
noncomputable def notInD : G2 := fun a b => (notInL a b).or (hasNotK a b)
theorem c_in (hu : X.A.units + 100 < cLine) : CmpOk X .In inD := let ⟨_, h1, h2⟩ := c_inL hu; ⟨_, OpR.or' h1 (op_hasK (by omega)), h2.or ok_hasK⟩
theorem c_notin (hu : X.A.units + 100 < cLine) : CmpOk X .NotIn notInD := let ⟨_, h1, h2⟩ := c_notinL hu; ⟨_, OpR.or' h1 (op_hasNotK (by omega)), h2.or ok_hasNotK⟩
variable {F0 H0 : Hp} {Ψ : Psi} {σ : St} {pos : Pos}
theorem v_dT : VE X F0 H0 Ψ (.Dict [] [] pos) (fun _ => .ok .ow (.dT [] [])) := pe_dnewT.mono fun σ H Q h => by
  obtain ⟨F, ev, fi, m⟩ := h
  intro p hp
  exact m F (.ref p) _ (Post.own (.refl fi.sub) hp fun H2 e => ⟨[], e, rfl, .nil⟩)
end
end L3
set_option Elab.async false
set_option linter.all false
set_option maxRecDepth 100000
namespace L3
open PySem L2
section
variable {X : Cx} {K : PySem.W.Frag} {F0 H0 F H F' H' : Hp} {Ψ : Psi} {σ : St} {ev : Ev}
noncomputable def setDG (i : Nat) (f v : Ev → R) (ev : Ev) : Fl := match v ev with
  | .ok .bo _ => .no
  | .ok _ d => match ev[i]? with
    | some (some (.ow, .dK ks xs)) => match f ev with
      | .ok _ kd => match keyD kd with
        | some k => if ks.length < LIM then .nx (ev.set i (some (.ow, .dK (dPutK ks k) (dPutV ks xs k d)))) else .no
        | none => .no
      | .ex C => .ex C
      | .no => .no
    | some (some (.ow, .dT ks xs)) => match f ev with
      | .ok _ (.tup l) => match keysD l with
        | some k => if ks.length < LIM then .nx (ev.set i (some (.ow, .dT (dPutK ks k) (dPutV ks xs k d)))) else .no
        | none => .no
      | .ex C => .ex C
      | _ => .no
    | _ => .no
  | .ex C => .ex C
  | .no => .no
noncomputable def rSetD : V → V → V → Hp → (Hp → Prop) → Prop := fun o i v H Q => ∃ a H', o = .ref a ∧ DPut H a i v H' ∧ Q H'
theorem set_dict (hu : X.A.units + 1 < cLine) : PSet X rSetD := by
  intro pins s σ H o i v ov iv u Q I ro ri rv h
  obtain ⟨a, H', rfl, g, q⟩ := h
  obtain rfl : ov = Value.ref a := ro
  exact d_setItem hu I g ri rv fun s' I' => ⟨H', I', q⟩
theorem FI.owD {i : Nat} {ks : List Key} {xs : List D} (fi : FI K F0 H0 F H ev σ) (e : ev[i]? = some (some (.ow, .dK ks xs))) : ∃ a vs, σ[i]? = some (some (.ref a)) ∧ H a = some (.dK (ks.zip vs)) ∧ ks.length = vs.length ∧ Reps K F xs vs := by
  obtain ⟨_, v, e1, a, rfl, h1, h2, vs, h3, h4⟩ := fi.at_ i _ _ e
  exact ⟨a, vs, e1, h3, h4⟩
theorem FI.owT {i : Nat} {ks : List (List Key)} {xs : List D} (fi : FI K F0 H0 F H ev σ) (e : ev[i]? = some (some (.ow, .dT ks xs))) : ∃ a vs, σ[i]? = some (some (.ref a)) ∧ H a = some (.dT (ks.zip vs)) ∧ ks.length = vs.length ∧ Reps K F xs vs := by
  obtain ⟨_, v, e1, a, rfl, h1, h2, vs, h3, h4⟩ := fi.at_ i _ _ e
  exact ⟨a, vs, e1, h3, h4⟩
theorem tSetD_of {i : Nat} {f v : Ev → R} {E : Ends} (q : tSv K F0 H0 Ψ (setDG i f v) E σ H) : tAsg (tV K F0 H0 Ψ v) (gSub (tVar i) (tV K F0 H0 Ψ f) rSetD) E σ H := by
  obtain ⟨F, ev, fi, m⟩ := q
  refine ⟨F, ev, fi, ?_⟩
  unfold setDG at m
  cases h3 : v ev with
  | no => rw [h3] at m; exact m
  | ex C => rw [h3] at m; exact m
  | ok k d =>
    rw [h3] at m
    intro F1 y H1 p
    have go : ∀ F2, Post K F H .fz d F2 y H1 → FlowTo K F0 H0 Ψ F E (match ev[i]? with
      | some (some (.ow, .dK ks xs)) => match f ev with
        | .ok _ kd => match keyD kd with
          | some k => if ks.length < LIM then .nx (ev.set i (some (.ow, .dK (dPutK ks k) (dPutV ks xs k d)))) else .no
          | none => .no
        | .ex C => .ex C
        | .no => .no
      | some (some (.ow, .dT ks xs)) => match f ev with
        | .ok _ (.tup l) => match keysD l with
          | some k => if ks.length < LIM then .nx (ev.set i (some (.ow, .dT (dPutK ks k) (dPutV ks xs k d)))) else .no
          | none => .no
        | .ex C => .ex C
        | _ => .no
      | _ => .no) → gSub (tVar i) (tV K F0 H0 Ψ f) rSetD y σ H1 E.nx := fun F2 p2 m => by
      split at m
      · rename_i ks xs e
        obtain ⟨a, vs, e1, h1, h2, h2'⟩ := fi.owD e
        refine ⟨.ref a, e1, F2, ev, fi.later p2.st, ?_⟩
        cases h4 : f ev with
        | no => rw [h4] at m; exact m
        | ex C => rw [h4] at m; exact m
        | ok k' d' =>
          rw [h4] at m
          intro F3 z H3 p3
          dsimp only at m
          cases h5 : keyD d' with
          | none => rw [h5] at m; exact m.elim
          | some kk =>
            rw [h5] at m
            dsimp only at m
            by_cases hl : ks.length < LIM
            · rw [if_pos hl] at m
              have st := p2.st.trans p3.st
              obtain ⟨vs', g1, g2, g3⟩ := put_zip (k := kk) (h2'.mono st.up) h2 (p2.val.later p3.st)
              refine ⟨a, _, rfl, ?_, m F3 _ σ st.up ((fi.later st).mut e e1 fun H2 z => ⟨vs', z, g2, g3⟩)⟩
              rw [key_is h5 p3.val.rd, ← g1]
              exact .k (st.keep _ _ h1) (by rw [List.length_zip, ← h2, Nat.min_self]; exact Nat.lt_of_lt_of_le hl sizeLine_ge)
            · rw [if_neg hl] at m; exact m.elim
      · rename_i ks xs e
        obtain ⟨a, vs, e1, h1, h2, h2'⟩ := fi.owT e
        refine ⟨.ref a, e1, F2, ev, fi.later p2.st, ?_⟩
        cases h4 : f ev with
        | no => rw [h4] at m; exact m
        | ex C => rw [h4] at m; exact m
        | ok k' d' =>
          rw [h4] at m
          intro F3 z H3 p3
          cases d' with
          | tup l =>
            dsimp only at m
            cases h5 : keysD l with
            | none => rw [h5] at m; exact m.elim
            | some kk =>
              rw [h5] at m
              dsimp only at m
              by_cases hl : ks.length < LIM
              · rw [if_pos hl] at m
                have st := p2.st.trans p3.st
                obtain ⟨vs', g1, g2, g3⟩ := put_zip (k := kk) (h2'.mono st.up) h2 (p2.val.later p3.st)
                obtain ⟨b, us, rfl, hb, hus⟩ := p3.val.rd.tup p3.st.sub
                rw [keys_are h5 hus] at hb
                refine ⟨a, _, rfl, ?_, m F3 _ σ st.up ((fi.later st).mut e e1 fun H2 z => ⟨vs', z, g2, g3⟩)⟩
                rw [← g1]
                exact .t (st.keep _ _ h1) hb (by rw [List.length_zip, ← h2, Nat.min_self]; exact Nat.lt_of_lt_of_le hl sizeLine_ge)
              · rw [if_neg hl] at m; exact m.elim
          | _ => exact m.elim
      · exact m.elim
    cases k with
    | bo => exact m.elim
    | fz => exact go F1 p m
    | ow => obtain ⟨F2, p2⟩ := p.frz; exact go F2 p2 m
noncomputable def isLst : Option (Option (Kd × D)) → Bool
  | some (some (.ow, .lst _)) => true
  | _ => false
noncomputable def setItG (i : Nat) (f v : Ev → R) (ev : Ev) : Fl := if isLst ev[i]? = true then setLG i f v ev else setDG i f v ev
variable {e i' : Expr} {f v : Ev → R} {x : Str} {p apos cpos pos : Pos}
theorem PS.or {st : Stmt} {t t' : TS} (h : PS X st t) (h' : PS X st t') : PS X st (fun D σ H => t D σ H ∨ t' D σ H) := fun pins s σ H D I q => by
  rcases q with q | q
  · exact h pins s σ H D I q
  · exact h' pins s σ H D I q
theorem vs_setit (hu : X.A.units + 100 < cLine) (i : Nat) (he : VE X F0 H0 Ψ e v) (hi : VE X F0 H0 Ψ i' f) (hN : X.N[i]? = some x := by rfl) (hv : Vis X.env.scope x := by first | exact Or.inl rfl | exact Or.inr (Or.inl rfl) | exact Or.inr (Or.inr rfl)) (hd : (x == ("__debug__" : Str)) = false := by decide)
    (hcd : (x == ("__classdict__" : Str)) = false := by decide)
    (ha : ∀ v, assign (.Subscript (.Name x p) i' apos) X.env v = (do
      let ov ← holding [v] (eval (.Name x p) X.env)
      let iv ← holding [v, ov] (eval i' X.env)
      standAt apos
      holding [v, ov, iv] (setItem ov iv v)
      release [v, ov, iv] []) := by intro _; rfl)
    (hs : swapsWithSole [.Subscript (.Name x p) i' apos] e pos.line X.env = pure false := by rfl) (hw : swappedStores [.Subscript (.Name x p) i' apos] e X.env = pure none := by rfl)
    (h1 : (assignEach [.Subscript (.Name x p) i' apos] X.env).map (·.2) = [assign (.Subscript (.Name x p) i' apos) X.env] := by rfl) :
    VS X F0 H0 Ψ (.Assign [.Subscript (.Name x p) i' apos] e pos) (setItG i f v) :=
  (PS.or (ps_asg he (pg_sub (pe_var hN hv hd hcd) hi set_list ha) hs hw h1) (ps_asg he (pg_sub (pe_var hN hv hd hcd) hi (set_dict (by omega)) ha) hs hw h1)).mono fun E σ H q => by
    obtain ⟨F, ev, fi, m⟩ := q
    unfold setItG at m
    by_cases c : isLst ev[i]? = true
    · rw [if_pos c] at m; exact .inl (tSetLIt_of ⟨F, ev, fi, m⟩)
    · rw [if_neg c] at m; exact .inr (tSetD_of ⟨F, ev, fi, m⟩)
noncomputable abbrev G1 := D → Option (Kd × D)
noncomputable def un1 (g : G1) : R → R
  | .ok _ a => toR (g a)
  | r => r
noncomputable def eUn (g : G1) (f : Ev → R) (ev : Ev) : R := un1 g (f ev)
noncomputable def negD : G1
  | .int i => some (.fz, .int (-i))
  | _ => none
theorem v_neg {a : Expr} (ha : VE X F0 H0 Ψ a f) : VE X F0 H0 Ψ (.UnaryOp .USub a pos) (eUn negD f) := (pe_un un_neg ha).mono fun σ H Q h => by
  obtain ⟨F, ev, fi, m⟩ := h
  refine ⟨F, ev, fi, ?_⟩
  simp only [eUn] at m
  cases h1 : f ev with
  | no => rw [h1] at m; exact m
  | ex C => rw [h1] at m; exact m
  | ok k d =>
    rw [h1] at m
    intro F1 x H1 p1
    simp only [un1] at m
    cases d with
    | int i => exact ⟨i, p1.val.rd.int, m F1 _ H1 ⟨p1.st, by rw [Val, Rep]⟩⟩
    | _ => exact m.elim
noncomputable def chnR (g g' : G2) (r1 r2 : R) (r3 : R) : R := match r1 with
  | .ok _ a => match r2 with
    | .ok _ b => match g a b with
      | some (_, .bl t) => if t then op2 g' r2 r3 else .ok .fz (.bl false)
      | _ => .no
    | r => r
  | r => r
noncomputable def eChain (g g' : G2) (f1 f2 f3 : Ev → R) (ev : Ev) : R := chnR g g' (f1 ev) (f2 ev) (f3 ev)
theorem tChain_of {r r' : R2} {g g' : G2} {f1 f2 f3 : Ev → R} {Q : VK} (ho : OkOp K r g) (ho' : OkOp K r' g') (h : tV K F0 H0 Ψ (eChain g g' f1 f2 f3) σ H Q) : tChain r r' (tV K F0 H0 Ψ f1) (tV K F0 H0 Ψ f2) (tV K F0 H0 Ψ f3) σ H Q := by
  obtain ⟨F, ev, fi, m⟩ := h
  refine ⟨F, ev, fi, ?_⟩
  simp only [eChain] at m
  cases h1 : f1 ev with
  | no => rw [h1] at m; exact m
  | ex C => rw [h1] at m; exact m
  | ok k1 d1 =>
    rw [h1] at m
    intro F1 x H1 p1
    refine ⟨F1, ev, fi.later p1.st, ?_⟩
    cases h2 : f2 ev with
    | no => rw [h2] at m; exact m
    | ex C => rw [h2] at m; exact m
    | ok k2 d2 =>
      rw [h2] at m
      intro F2 y H2 p2
      simp only [chnR] at m
      have s12 := p1.st.trans p2.st
      cases e : g d1 d2 with
      | none => rw [e] at m; exact m.elim
      | some z =>
        obtain ⟨k, d⟩ := z
        rw [e] at m
        cases d with
        | bl t =>
          refine ho F2 H2 d1 d2 x y k (.bl t) _ p2.st.sub (p1.val.rd.later p2.st) p2.val.rd e fun F3 v3 H3 p3 => ⟨t, p3.val.rd.bl, ?_⟩
          have s3 := s12.trans p3.st
          cases t with
          | false =>
            rw [if_neg Bool.false_ne_true]
            exact m F3 _ H3 ⟨s3, by rw [Val, Rep]⟩
          | true =>
            rw [if_pos rfl]
            refine ⟨F3, ev, fi.later s3, ?_⟩
            have m : match op2 g' (.ok k2 d2) (f3 ev) with
              | .ok k d => ∀ F' v H', Post K F H k d F' v H' → Q v H'
              | .ex C => ∀ F' H', Step F0 H0 F' H' → Ψ C H'
              | .no => False := m
            cases h3 : f3 ev with
            | no => rw [h3] at m; exact m
            | ex C => rw [h3] at m; exact m
            | ok k4 d4 =>
              rw [h3] at m
              intro F4 w' H4 p4
              have m : match toR (g' d2 d4) with
                | .ok k d => ∀ F' v H', Post K F H k d F' v H' → Q v H'
                | .ex C => ∀ F' H', Step F0 H0 F' H' → Ψ C H'
                | .no => False := m
              cases e' : g' d2 d4 with
              | none => rw [e'] at m; exact m.elim
              | some z =>
                obtain ⟨k5, d5⟩ := z
                rw [e'] at m
                have s4 := s3.trans p4.st
                exact ho' F4 H4 d2 d4 y w' k5 d5 Q p4.st.sub ((p2.val.rd.later p3.st).later p4.st) p4.val.rd e' fun F5 v5 H5 p5 => m F5 v5 H5 ⟨s4.trans p5.st, p5.val.early s4.keep⟩
        | _ => exact m.elim
theorem vt_chain {a b c : Expr} {op op' : CmpOp} {g g' : G2} {f1 f2 f3 : Ev → R} (hc : CmpOk X op g) (hc' : CmpOk X op' g') (ha : VE X F0 H0 Ψ a f1) (hb : VE X F0 H0 Ψ b f2) (hd : VE X F0 H0 Ψ c f3) (hm : lastMarks [op, op'] [b, c] = false := by with_unfolding_all rfl) :
    VT X F0 H0 Ψ (.Compare a [op, op'] [b, c] pos) (eChain g g' f1 f2 f3) := let ⟨_, ho, hg⟩ := hc; let ⟨_, ho', hg'⟩ := hc'; (pt_chain ho ho' ha hb hd hm).mono fun σ H Q h => by
    obtain ⟨F, ev, fi, m⟩ := h
    exact tChain_of (K := X.K) (F0 := F0) (H0 := H0) (Ψ := Ψ) (f1 := f1) (f2 := f2) (f3 := f3) hg hg' (Q := fun x H' => ∃ k, x = .bl k ∧ Q k H') (by
      refine ⟨F, ev, fi, ?_⟩
      cases q : eChain g g' f1 f2 f3 ev with
      | no => rw [q] at m; exact m
      | ex C => rw [q] at m; exact m
      | ok k d =>
        rw [q] at m
        intro F' v H' p
        cases d with
        | bl b => exact ⟨b, p.val.rd.bl, m F' H' p.st⟩
        | _ => exact m.elim)
noncomputable def absD : GN
  | [.int i] => some (.fz, .int (if i < 0 then -i else i))
  | _ => none
theorem ok_abs : OkCall K (fun xs H Q => ∃ i, xs = [.int i] ∧ Q (.int (if i < 0 then -i else i)) H) absD := by
  intro F H ds vs k d Q s r e q
  unfold absD at e
  split at e
  · rename_i i
    cases e
    obtain ⟨v, _, rfl, rx, rfl⟩ := r
    exact ⟨i, by rw [rx.int], q F _ H (.pure (.refl s) (by rw [Rep]))⟩
  · cases e
theorem v_abs {es : List Expr} {fs : Ev → RA} {p : Pos} (hm : X.mg "abs" = none) (ha : VA X F0 H0 Ψ (e :: es) fs) (hgl : Gl X "abs" := by rfl) (he : starEach (e :: es) X.env = (false, eval e X.env) :: starEach es X.env := by rfl) (hpl : (backTo pos (starEach es X.env)).any (·.1) = false := by rfl) : VE X F0 H0 Ψ (.Call (.Name "abs" p) (e :: es) [] pos) (eCall absD fs) := v_callB call_abs ok_abs hm (by rfl) ha hgl (by decide) (by decide) he hpl
end
end L3
set_option Elab.async false
set_option linter.all false
set_option maxRecDepth 100000
namespace L2
open PySem PySem.Spec PyProof.Rows
section
variable {X : Cx} {e st : Expr} {te ts : TE} {pos p2 : Pos}
noncomputable def rStep (K : PySem.W.Frag) : V → V → Hp → VK → Prop := fun x k H Q => ∃ a xs, x = .ref a ∧ SqL K H a xs ∧ ((k = .int 1 ∧ ∀ p, H p = none → Q (.ref p) (upd H p (.lst xs))) ∨ (k = .int (-1) ∧ ∀ p, H p = none → Q (.ref p) (upd H p (.lst xs.reverse))))
theorem pick_one (items : Array Value) : slicePick items none none (some 1) = items := by
  have h := slicePick_plain items none none
  have e : slicePick items none none (some 1) = slicePick items none none none := rfl
  rw [e, h]
  simp
  rw [List.take_of_length_le (by simp)]
theorem pe_step (he : PE X e te) (hk : PE X st ts) : PE X (.Subscript e (.Slice none none (some st) p2) pos) (tOp (rStep X.K) te ts) := by
  intro pins s σ H Q I h
  refine Subscript_ (thn (he pins s σ H _ I h) fun v s1 ⟨x, H1, I1, r1, q1⟩ => ?_)
  refine wpAny_Slice ?_
  rw [evalPart_none]
  refine wpAny_pure (wpAny_pure ?_)
  rw [evalPart_some]
  refine thn (hk pins s1 σ H1 _ I1 q1) fun vk s3 ⟨k, H3, I3, rk, q3⟩ => ?_
  have I4 : Inv X pins σ H3 { s3 with heap := s3.heap.push { cls := .type "slice", data := .fields #[.none, .none, vk] } } := I3.kept (t' := s3.toks) fun b ob q => Heap.get?_push_of_some _ q
  obtain ⟨a, xs, rfl, hx, q⟩ := q3
  cases r1
  obtain ⟨its, r, ht, hz⟩ := I4.list hx
  have hlen := r.length
  show wpAny (model X.prog X.w) X.A (subscriptTail e (.Slice none none (some st) p2) (.ref a) (.ref s3.heap.objs.size)) (EP X pins σ Q) X.xe { s3 with heap := s3.heap.push { cls := .type "slice", data := .fields #[.none, .none, vk] } }
  refine tail_any (ops := [.ref a, .ref s3.heap.objs.size]) ht.isList.typeIs slot_list_getitem.lookup ?_ (by with_unfolding_all rfl)
  rcases q with ⟨rfl, q⟩ | ⟨rfl, q⟩ <;> obtain ⟨t, rfl⟩ := rk
  · refine wpAny_getItem_list_slice ht.isList (Heap.IsSliceOf.new ..) .none .none (.int 1 t) (by simp) ?_ (by rw [List.size_toArray] <;> omega)
    rw [pick_one]
    refine ⟨.ref _, _, I4.laid (t' := s3.toks) (o := .lst xs) (fun b ob q => Heap.get?_push_of_some _ q) (Nat.le_refl _) ?_, rfl, q _ (I4.hok.fresh (Nat.le_refl _))⟩
    exact ⟨hz, _, 0, r, Heap.get?_push_size _ rfl⟩
  · refine wpAny_getItem_list_slice ht.isList (Heap.IsSliceOf.new ..) .none .none (.int (-1) t) (by simp) ?_ (by rw [List.size_toArray] <;> omega)
    rw [PySem.W.krv_pick]
    refine ⟨.ref _, _, I4.laid (t' := s3.toks) (o := .lst xs.reverse) (fun b ob q => Heap.get?_push_of_some _ q) (Nat.le_refl _) ?_, rfl, q _ (I4.hok.fresh (Nat.le_refl _))⟩
    exact ⟨by simpa using hz, _, 0, r.reverse, Heap.get?_push_size _ rfl⟩
end
end L2
namespace L3
open PySem L2
section
variable {X : Cx} {K : PySem.W.Frag} {F0 H0 F H F' H' : Hp} {Ψ : Psi} {σ : St} {ev : Ev}
theorem Reps.rev : ∀ {ds : List D} {vs : List V}, Reps K F ds vs → Reps K F ds.reverse vs.reverse
  | [], _, h => by rw [h.unnil]; exact .nil
  | _ :: _, _, h => by obtain ⟨v, r, rfl, h1, h2⟩ := h.uncons; rw [List.reverse_cons, List.reverse_cons]; exact h2.rev.app (.cons h1 .nil)
noncomputable def stepD : G2
  | .lst xs, .int k => if k = 1 then some (.ow, .lst xs) else if k = -1 then some (.ow, .lst xs.reverse) else none
  | .scr xs, .int k => if k = 1 then some (.ow, .lst xs) else if k = -1 then some (.ow, .lst xs.reverse) else none
  | _, _ => none
theorem ok_step : OkOp K (rStep K) stepD := by
  intro F H dx dy x y k d Q s rx ry e q
  have go : ∀ (xs : List D) (i : Int) (a : Addr) (vs : List V), SqL K H a vs → Reps K F xs vs → y = .int i → (if i = 1 then some (Kd.ow, D.lst xs) else if i = -1 then some (.ow, .lst xs.reverse) else none) = some (k, d) → rStep K (.ref a) y H Q := fun xs i a vs hs hr hy e => by
    split at e
    · rename_i h1; cases e; subst h1
      exact ⟨a, vs, rfl, hs, .inl ⟨hy, fun p hp => q F _ _ (Post.own (.refl s) hp fun H2 e => ⟨_, e, hr⟩)⟩⟩
    · split at e
      · rename_i h1; cases e; subst h1
        exact ⟨a, vs, rfl, hs, .inr ⟨hy, fun p hp => q F _ _ (Post.own (.refl s) hp fun H2 e => ⟨_, e, hr.rev⟩)⟩⟩
      · cases e
  unfold stepD at e
  split at e <;> first | (cases e; done) | skip
  · obtain ⟨a, vs, rfl, h1, h2⟩ := rx.lst s
    exact go _ _ a vs (SqL.of h1) h2 ry.int e
  · obtain ⟨a, vs, rfl, h1, h2⟩ := rx.scr s
    exact go _ _ a vs h1 h2 ry.int e
theorem v_step {a st : Expr} {f1 f2 : Ev → R} {p2 pos : Pos} (ha : VE X F0 H0 Ψ a f1) (hb : VE X F0 H0 Ψ st f2) : VE X F0 H0 Ψ (.Subscript a (.Slice none none (some st) p2) pos) (eOp stepD f1 f2) := (pe_step ha hb).mono fun _ _ _ h => tOp_of ok_step h
noncomputable def cutG {α : Type} (xs : List α) (lo hi : Option Int) : List α := (xs.drop (HT.sIx xs.length 0 lo)).take (HT.sIx xs.length xs.length hi - HT.sIx xs.length 0 lo)
theorem Reps.cut {ds : List D} {vs : List V} (r : Reps K F ds vs) (lo hi : Option Int) : Reps K F (cutG ds lo hi) (cutV vs lo hi) := by
  unfold cutG cutV
  rw [r.length]
  exact (r.drop _).take _
noncomputable def slD : D → Option Int → Option Int → Option (Kd × D)
  | .lst xs, lo, hi => some (.ow, .lst (cutG xs lo hi))
  | .scr xs, lo, hi => some (.ow, .lst (cutG xs lo hi))
  | .tup xs, lo, hi => if ¬ (HT.sIx xs.length 0 lo = 0 ∧ HT.sIx xs.length xs.length hi = xs.length) then some (.fz, .tup (cutG xs lo hi)) else none
  | _, _, _ => none
inductive RO where | ok (o : Option Int) | ex (C : Addr) | no
noncomputable def oNo (_ : Ev) : RO := .ok none
noncomputable def oS : R → RO
  | .ok _ (.int i) => .ok (some i)
  | .ex C => .ex C
  | _ => .no
noncomputable def oSome (f : Ev → R) (ev : Ev) : RO := oS (f ev)
noncomputable def tVO (K : PySem.W.Frag) (F0 H0 : Hp) (Ψ : Psi) (f : Ev → RO) : TO := fun σ H Q => ∃ F ev, FI K F0 H0 F H ev σ ∧ match f ev with
  | .ok o => ∀ F' H', Step F H F' H' → Q o H'
  | .ex C => ∀ F' H', Step F0 H0 F' H' → Ψ C H'
  | .no => False
noncomputable def VO (X : Cx) (F0 H0 : Hp) (Ψ : Psi) (e : Option Expr) (f : Ev → RO) : Prop := PO X e (tVO X.K F0 H0 Ψ f)
theorem PO.mono' {e : Option Expr} {t t' : TO} (h : PO X e t) (i : ∀ σ H Q, t' σ H Q → t σ H Q) : PO X e t' := fun pins s σ H Q I q => h pins s σ H Q I (i σ H Q q)
theorem vo_none : VO X F0 H0 Ψ none oNo := PO.mono' po_none fun σ H Q h => by
  obtain ⟨F, ev, fi, m⟩ := h
  exact m F H fi.refl
theorem vo_some {e : Expr} {f : Ev → R} (h : VE X F0 H0 Ψ e f) : VO X F0 H0 Ψ (some e) (oSome f) := PO.mono' (po_some h) fun σ H Q h => by
  obtain ⟨F, ev, fi, m⟩ := h
  refine ⟨F, ev, fi, ?_⟩
  simp only [oSome] at m
  cases h1 : f ev with
  | no => rw [h1] at m; exact m
  | ex C => rw [h1] at m; exact m
  | ok k d =>
    rw [h1] at m
    intro F1 x H1 p
    cases d with
    | int i => exact ⟨i, p.val.rd.int, m F1 H1 p.st⟩
    | _ => exact m.elim
noncomputable def slR (r : R) (lo hi : RO) : R := match r with
  | .ok _ d => match lo with
    | .ok l => match hi with
      | .ok h => toR (slD d l h)
      | .ex C => .ex C
      | .no => .no
    | .ex C => .ex C
    | .no => .no
  | r => r
noncomputable def eSl (f : Ev → R) (fl fh : Ev → RO) (ev : Ev) : R := slR (f ev) (fl ev) (fh ev)
theorem v_sl {e : Expr} {lo hi : Option Expr} {f : Ev → R} {fl fh : Ev → RO} {p2 pos : Pos} (he : VE X F0 H0 Ψ e f) (hl : VO X F0 H0 Ψ lo fl) (hh : VO X F0 H0 Ψ hi fh) : VE X F0 H0 Ψ (.Subscript e (.Slice lo hi none p2) pos) (eSl f fl fh) :=
  (pe_slice (sl_list.or sl_tup) he hl hh).mono fun σ H Q h => by
    obtain ⟨F, ev, fi, m⟩ := h
    refine ⟨F, ev, fi, ?_⟩
    simp only [eSl] at m
    cases h1 : f ev with
    | no => rw [h1] at m; exact m
    | ex C => rw [h1] at m; exact m
    | ok k d =>
      rw [h1] at m
      intro F1 x H1 p1
      refine ⟨F1, ev, fi.later p1.st, ?_⟩
      simp only [slR] at m
      cases h2 : fl ev with
      | no => rw [h2] at m; exact m
      | ex C => rw [h2] at m; exact m
      | ok l =>
        rw [h2] at m
        intro F2 H2 s2
        refine ⟨F2, ev, (fi.later p1.st).later s2, ?_⟩
        cases h3 : fh ev with
        | no => rw [h3] at m; exact m
        | ex C => rw [h3] at m; exact m
        | ok hh' =>
          rw [h3] at m
          intro F3 H3 s3
          have m : match toR (slD d l hh') with
            | .ok k d => ∀ F' v H', Post X.K F H k d F' v H' → Q v H'
            | .ex C => ∀ F' H', Step F0 H0 F' H' → Ψ C H'
            | .no => False := m
          have st := (p1.st.trans s2).trans s3
          have rx := (p1.val.rd.later s2).later s3
          cases d with
          | lst xs =>
            obtain ⟨a, vs, rfl, h4, h5⟩ := rx.lst st.sub
            refine .inl ⟨a, vs, rfl, SqL.of h4, fun p hp => m F3 _ _ (Post.own st hp fun H2 e => ⟨_, e, h5.cut _ _⟩)⟩
          | scr xs =>
            obtain ⟨a, vs, rfl, h4, h5⟩ := rx.scr st.sub
            refine .inl ⟨a, vs, rfl, h4, fun p hp => m F3 _ _ (Post.own st hp fun H2 e => ⟨_, e, h5.cut _ _⟩)⟩
          | tup xs =>
            obtain ⟨a, vs, rfl, h4, h5⟩ := rx.tup st.sub
            simp only [slD] at m
            split at m
            · rename_i k' d' e'
              split at e'
              · rename_i hw
                cases e'
                refine .inr ⟨a, vs, rfl, SqT.of h4, by rw [← h5.length]; exact hw, fun p hp => ?_⟩
                obtain ⟨F4, p4⟩ := Post.made (K := X.K) (d := .tup (cutG xs l hh')) (o := .tup (cutV vs l hh')) st hp fun F2 up e => by rw [Rep]; exact ⟨p, _, rfl, e, (h5.cut l hh').mono up⟩
                exact m F4 _ _ p4
              · cases e'
            · rename_i e'; split at e' <;> cases e'
            · exact m.elim
          | _ => exact m.elim
noncomputable def mulS : G2
  | .str x, .int n => if 0 ≤ n ∧ n ≤ 1000 ∧ x.length ≤ 1000 then some (.fz, .str (Txt.mul x n)) else none
  | _, _ => none
noncomputable def rMulS : R2 := fun x y H Q => ∃ z n, x = .str z ∧ y = .int n ∧ 0 ≤ n ∧ n ≤ 1000 ∧ z.length ≤ 1000 ∧ Q (.str (Txt.mul z n)) H
theorem mulOk_small {x : Str} {n : Int} (h0 : 0 ≤ n) (h1 : n ≤ 1000) (hx : x.length ≤ 1000) : MulOk x n := by
  refine ⟨?_, fun hn _ => ?_, fun hn _ => ?_⟩
  · simp; omega
  · have h2 : (x.length : Int) ≤ 1000 := by omega
    have h3 : (2 ^ 63 - 1 : Int) / n ≥ 1000 := by
      refine Int.le_ediv_of_mul_le (by omega) ?_
      have : (1000 : Int) * n ≤ 1000 * 1000 := Int.mul_le_mul_of_nonneg_left h1 (by decide)
      omega
    omega
  · have h2 : x.length * n.toNat ≤ 1000 * 1000 := Nat.mul_le_mul hx (by omega)
    simp only [Builtin.Str.tooLong]
    have := sizeLine_ge
    simp
    omega
theorem op_mulS : OpR X (binaryOp .Mult) rMulS := by
  intro pins s σ H x y v u Q I rx ry h
  obtain ⟨z, n, rfl, rfl, h0, h1, hz, q⟩ := h
  obtain ⟨t, rfl⟩ := rx
  obtain ⟨t', rfl⟩ := ry
  exact SB.mul (mulOk_small h0 h1 hz) fun t'' k => ⟨.str (Txt.mul z n), H, I.tok k, ⟨t'', rfl⟩, q⟩
theorem ok_mulS : OkOp K rMulS mulS := by
  intro F H dx dy x y k d Q s rx ry e q
  unfold mulS at e
  split at e <;> first | (cases e; done) | skip
  rename_i z n
  split at e
  · rename_i hc
    cases e
    exact ⟨z, n, rx.str, ry.int, hc.1, hc.2.1, hc.2.2, q F _ H (.pure (.refl s) (by rw [Rep]))⟩
  · cases e
noncomputable def mulD : G2 := fun a b => (mulL a b).or (mulS a b)
theorem v_mul {a b : Expr} {f1 f2 : Ev → R} {pos : Pos} (ha : VE X F0 H0 Ψ a f1) (hb : VE X F0 H0 Ψ b f2) : VE X F0 H0 Ψ (.BinOp a .Mult b pos) (eOp mulD f1 f2) := v_bin (OpR.or' op_mul2 op_mulS) (ok_mulL.or ok_mulS) ha hb
noncomputable def lenD : GN := lenL
theorem v_len {e : Expr} {fs : Ev → RA} {p pos : Pos} (hm : X.mg "len" = none) (ha : VA X F0 H0 Ψ [e] fs) (hgl : Gl X "len" := by rfl) (he : starEach [e] X.env = (false, eval e X.env) :: starEach [] X.env := by rfl) : VE X F0 H0 Ψ (.Call (.Name "len" p) [e] [] pos) (eCall lenD fs) := v_lenL hm ha hgl he
end
end L3
set_option Elab.async false
set_option linter.all false
set_option maxRecDepth 100000
namespace L2
open PySem PySem.Spec PyProof.Rows
section
variable {X : Cx} {pins : List (Addr × Obj)} {σ : St} {H : Hp} {s : Shared} {h' : Heap}
theorem Inv.turnedL {t' : Nat} {fp : List Addr} (I : Inv X pins σ H s) (k : ∀ b o, b ∉ fp → s.heap.get? b = some o → h'.get? b = some o) (hf : ∀ b ∈ fp, FpOk X pins H b) : Inv X pins σ H { s with heap := h', toks := t' } := by
  have nit : ∀ b u, H b = some u → b ∉ fp := fun b u e z => by rw [(hf b z).1] at e; cases e
  refine I.step (g' := s.gens) (d' := s.drawn) (ch := fp) (fun b hb => ?_) (fun b o _ _ hc e _ => k b o hc e) (fun b o _ _ hc e _ => ⟨o.slots, k b o hc e⟩) (fun _ _ _ _ n => n)
    (fun b o hc e => ⟨o, k b o hc e⟩) (fun _ _ e => e) (fun _ _ _ e => e) (fun b ps e => ⟨#[], by rw [e]; simp⟩) (fun m hm => ?_) (fun b u e => ?_) I.bare
  · obtain ⟨f0, f1, f2, f3, f4, f5⟩ := hf b hb
    exact ⟨f3, f1, f4, f5⟩
  · obtain ⟨o, es, ep, ho, r⟩ := hm
    exact ⟨o, es, ep, k _ o (fun z => (hf _ z).2.1 rfl) ho, r⟩
  · refine (I.hok b u e).stay (fun c v hc q => k c v ?_ q) (fun _ q => q) fun _ _ q => q
    rcases hc with z | z
    · rw [z]; exact nit b u e
    · exact nit c _ z
end
section
variable {X : Cx}
end
end L2
namespace L3
open PySem L2
section
variable {X : Cx} {F0 H0 : Hp} {Ψ : Psi}
end
end L3
set_option Elab.async false
set_option linter.all false
set_option maxRecDepth 100000
namespace ST
open PySem PySem.SetTable
noncomputable def it (f : Nat → Nat) : Nat → Nat → Nat
  | 0, x => x
  | n + 1, x => it f n (f x)
noncomputable def adv (m : Nat) (p : Probe) : Probe :=
  if p.more > 0 then { p with j := p.j + 1, more := p.more - 1 } else
  { p with j := (leap m p.i p.perturb).1, more := runEnd m (leap m p.i p.perturb).1 - (leap m p.i p.perturb).1, i := (leap m p.i p.perturb).1, perturb := (leap m p.i p.perturb).2 }
noncomputable def st0 (m : Nat) (h : Int) : Probe := { j := bits h % (m + 1), more := runEnd m (bits h % (m + 1)) - bits h % (m + 1), i := bits h % (m + 1), perturb := bits h, dummy := none }
noncomputable def st (m : Nat) (h : Int) : Nat → Probe
  | 0 => st0 m h
  | n + 1 => adv m (st m h n)
noncomputable def pos (m : Nat) (h : Int) (n : Nat) : Nat := (st m h n).j
noncomputable def hd (m : Nat) (h : Int) : Nat → Nat × Nat
  | 0 => (bits h % (m + 1), bits h)
  | n + 1 => leap m (hd m h n).1 (hd m h n).2
noncomputable def head (m : Nat) (h : Int) (k : Nat) : Probe := { j := (hd m h k).1, more := runEnd m (hd m h k).1 - (hd m h k).1, i := (hd m h k).1, perturb := (hd m h k).2, dummy := none }
noncomputable abbrev El := Nat × (Int × Value)
section
variable {t : SetTable} {es : Array (Int × Value)} {L : List El}
noncomputable def cnt (j : Nat) : List Nat → Nat
  | [] => 0
  | x :: l => if x < j then cnt j l + 1 else 0
end
end ST
set_option Elab.async false
set_option linter.all false
set_option maxRecDepth 100000
namespace ST
open PySem PySem.SetTable
section
variable {t : SetTable} {es : Array (Int × Value)} {L : List El}
noncomputable def ins (L : List El) (e : El) : List El := L.take (cnt e.1 (L.map (·.1))) ++ e :: L.drop (cnt e.1 (L.map (·.1)))
end
end ST
set_option Elab.async false
set_option linter.all false
set_option maxRecDepth 100000
namespace ST
open PySem PySem.SetTable
section
variable {prog : Program} {w : World} {K : Type} [DecidableEq K] {knd : KeyKind prog w K} {A : Around} {E : Value → Shared → Prop} {s : Shared}
end
end ST
set_option Elab.async false
set_option linter.all false
set_option maxRecDepth 100000
namespace ST
open PySem PySem.SetTable
section
variable {prog : Program} {w : World} {K : Type} [DecidableEq K] {knd : KeyKind prog w K} {A : Around} {E : Value → Shared → Prop} {s : Shared}
end
end ST
set_option Elab.async false
set_option linter.all false
set_option maxRecDepth 100000
namespace ST
open PySem PySem.SetTable
noncomputable def dd {κ : Type} [DecidableEq κ] (l : List κ) : List κ := l.foldl (fun ds k => if k ∈ ds then ds else ds ++ [k]) []
section
variable {prog : Program} {w : World} {K : Type} [DecidableEq K] {knd : KeyKind prog w K} {A : Around} {R : Result → Shared → Prop} {E : Value → Shared → Prop} {s : Shared}
noncomputable def Keyed (knd : KeyKind prog w K) (h : Heap) (vs : List Value) (ks : List (List K)) : Prop := vs.length = ks.length ∧ ∀ (i : Nat) v, vs[i]? = some v → ∃ ad k, v = .ref ad ∧ ks[i]? = some k ∧ IsTupleKey knd h k ad
end
end ST
set_option Elab.async false
set_option linter.all false
set_option maxRecDepth 100000
namespace ST
open PySem PySem.SetTable
section
variable {prog : Program} {w : World} {K : Type} [DecidableEq K] {knd : KeyKind prog w K} {A : Around} {E : Value → Shared → Prop} {s : Shared}
end
end ST
set_option Elab.async false
set_option linter.all false
set_option maxRecDepth 100000
namespace L3
open PySem L2
section
variable {X : Cx}
noncomputable def keysL : List D → Option (List (List Key))
  | [] => some []
  | .tup l :: ds => (keysD l).bind fun k => (keysL ds).map (k :: ·)
  | _ => none
theorem keysL_at {K : PySem.W.Frag} {F : Hp} : ∀ {ds : List D} {ks : List (List Key)} {vs : List V}, keysL ds = some ks → Reps K F ds vs → vs.length = ks.length ∧ ∀ (i : Nat) v, vs[i]? = some v → ∃ b k, v = .ref b ∧ ks[i]? = some k ∧ F b = some (.tup (k.map kV))
  | [], _, _, e, r => by cases e; rw [r.unnil]; simp
  | d :: ds, ks, _, e, r => by
    obtain ⟨v, vs, rfl, rv, rs⟩ := r.uncons
    cases d with
    | tup l =>
      simp only [keysL] at e
      cases e1 : keysD l with
      | none => rw [e1] at e; cases e
      | some k =>
        rw [e1] at e
        cases e2 : keysL ds with
        | none => rw [e2] at e; cases e
        | some ks' =>
          rw [e2] at e; cases e
          obtain ⟨h1, h2⟩ := keysL_at e2 rs
          refine ⟨by simp [h1], fun i v' hv => ?_⟩
          cases i with
          | zero =>
            simp at hv; subst hv
            rw [Rep] at rv
            obtain ⟨b, us, rfl, hb, hr⟩ := rv
            rw [keys_are e1 hr] at hb
            exact ⟨b, k, rfl, rfl, hb⟩
          | succ i =>
            obtain ⟨b, k', a1, a2, a3⟩ := h2 i v' (by simpa using hv)
            exact ⟨b, k', a1, by simpa using a2, a3⟩
    | _ => cases e
variable {F0 H0 : Hp} {Ψ : Psi}
end
end L3
set_option Elab.async false
set_option linter.all false
set_option maxRecDepth 100000
namespace L2
open PySem PySem.Spec PyProof.Rows
section
variable {X : Cx} {a b c d : Expr} {ta tb tc td : TE} {pos : Pos}
end
end L2
namespace L3
open PySem L2
section
variable {X : Cx} {K : PySem.W.Frag} {F0 H0 F H F' H' : Hp} {Ψ : Psi} {σ : St} {ev : Ev}
end
end L3
set_option Elab.async false
set_option linter.all false
set_option maxRecDepth 100000
namespace L2
open PySem PySem.Spec PyProof.Rows
theorem turn_long {P : Program} {w : World} {K : PySem.W.Frag} {tg : Expr} (it : Addr) (lo : Int) : Turn P w K tg (Itr lo 0) [it] it (fun i h => ∃ x left step, IsLongIter h it x left step ∧ left ≤ 0) where
  mem := by simp
  obj := fun i h st b hb => by
    have e : b = it := by simpa using hb
    subst e
    obtain ⟨x, l, sp, st, _⟩ := st
    exact ⟨_, st, fun v z => by cases z⟩
  keep := fun i h h' st k => by
    obtain ⟨x, l, sp, st, hl⟩ := st
    exact ⟨x, l, sp, k it (by simp) _ st, hl⟩
  item := by
    intro X hP hw hK hc i pins s σ H E I hf st hg
    have : i < 0 := hg
    omega
  done := by
    intro X hP hw hK hc i pins s σ H E I hf st hg
    subst hP hw hK
    obtain ⟨x, l, sp, st, hl⟩ := st
    obtain ⟨f0, f1, f2, f3, f4, f5⟩ := hf it (by simp)
    exact wpAny_pyNext_long_end (I.ok.hd hc) st hl fun h' eb => ⟨rfl, I.turned (t' := s.toks) (fun b o hb e => eb b o hb e) f0 f1 f3 f4 f5⟩
  self := fun _ _ _ _ _ st h => by
    obtain ⟨x, l, sp, st, hl⟩ := st
    exact wpAny_pyIter_longiter st h
section
variable {X : Cx} {tg : Expr}
noncomputable def iRngN (ta : TA) : TI := fun σ H R => ta σ H fun vs H1 => ∃ j : Int, vs = [.int j] ∧ j < -(2 ^ 62) ∧ R (Itr 0 0) H1
theorem pi_rangeN {a : Expr} {ta : TA} {p pos : Pos} (hg : Gl X "range") (hm : X.mg "range" = none) (ha : PA X [a] ta) (hs : starEach [a] X.env = [(false, eval a X.env)] := by rfl) : PI X tg (.Call (.Name "range" p) [a] [] pos) (iRngN ta) := by
  intro pins s σ H R I h
  refine Call_ (ld_blt I hg hm boot_range (PyProof.Rows.callWith_type1 (thn (ha pos pins s σ H _ I h) fun us s1 ⟨vs, H1, I1, r1, q1⟩ => ?_) hs rfl))
  obtain ⟨j, e, hj, q⟩ := q1
  subst e
  cases r1 with
  | cons r rr =>
    cases rr
    obtain ⟨t, rfl⟩ := r
    refine call_range_1 ?_
    have sz : Builtin.Range.rangeSize 0 j 1 = 0 := by rw [rangeSize_one, if_neg (by omega)]
    cases hsm : Builtin.Range.small 0 j 1 with
    | true =>
      refine wpAny_pyIter_range (IsRange.new ..) hsm ?_
      have I2 := I1.kept (t' := s1.toks + 2) (h' := s1.heap.push { cls := .type "range", data := .fields #[.int 0 s1.toks, .int j t, .int 1 (s1.toks + 1)] }) fun b o e => Heap.get?_push_of_some _ e
      refine ⟨_, [_], _, _, H1, rfl, I2.kept (t' := s1.toks + 2) fun b o e => Heap.get?_push_of_some _ e, turn_range _ 0 0, ?_, fun b hb => ?_, q⟩
      · rw [sz]
        exact Heap.get?_push_size _ rfl
      · have e := List.mem_singleton.1 hb
        subst e
        exact I2.fpOk (Nat.le_refl _) (I2.hok.fresh (Nat.le_refl _))
    | false =>
      refine wpAny_pyIter_longrange (IsRange.new ..) hsm ?_
      have I2 := I1.kept (t' := s1.toks + 2) (h' := s1.heap.push { cls := .type "range", data := .fields #[.int 0 s1.toks, .int j t, .int 1 (s1.toks + 1)] }) fun b o e => Heap.get?_push_of_some _ e
      refine ⟨_, [_], _, _, H1, rfl, I2.kept (t' := s1.toks + 2) fun b o e => Heap.get?_push_of_some _ e, turn_long _ 0, ?_, fun b hb => ?_, q⟩
      · rw [sz]
        exact ⟨_, _, _, Heap.get?_push_size _ rfl, Int.le_refl _⟩
      · have e := List.mem_singleton.1 hb
        subst e
        exact I2.fpOk (Nat.le_refl _) (I2.hok.fresh (Nat.le_refl _))
theorem PI.or {g e : Expr} {t t' : TI} (h : PI X g e t) (h' : PI X g e t') : PI X g e (fun σ H R => t σ H R ∨ t' σ H R) := fun pins s σ H R I q => by
  rcases q with q | q
  · exact h pins s σ H R I q
  · exact h' pins s σ H R I q
end
end L2
namespace L3
open PySem L2
section
variable {X : Cx} {F0 H0 : Hp} {Ψ : Psi} {tg a : Expr} {fs : Ev → RA} {pos : Pos}
noncomputable def rngW : RA → RI
  | .ok [(_, .int j)] => if j < 2 ^ 62 then .ok (rangeD 0 j.toNat) else .no
  | .ex C => .ex C
  | _ => .no
noncomputable def iRngW (f : Ev → RA) (ev : Ev) : RI := rngW (f ev)
theorem vi_rngW {p : Pos} (hm : X.mg "range" = none) (ha : VA X F0 H0 Ψ [a] fs) (hg : Gl X "range" := by rfl) (hs : starEach [a] X.env = [(false, eval a X.env)] := by rfl) : VI X F0 H0 Ψ tg (.Call (.Name "range" p) [a] [] pos) (iRngW fs) :=
  ((pi_range1 hg hm ha hs).or (pi_rangeN hg hm ha hs)).mono fun σ H R h => by
    obtain ⟨F, ev, fi, m⟩ := h
    unfold iRngW at m
    cases h1 : fs ev with
    | no => rw [h1] at m; exact m.elim
    | ex C => rw [h1] at m; exact .inl ⟨F, ev, fi, by rw [h1]; exact m⟩
    | ok l =>
      rw [h1] at m
      unfold rngW at m
      split at m
      · rename_i ds hm'
        split at hm'
        · rename_i k j he
          cases he
          split at hm'
          · rename_i hb
            cases hm'
            by_cases hlow : -(2 ^ 62) ≤ j
            · left
              refine iRng1_of ⟨F, ev, fi, ?_⟩
              dsimp only
              rw [h1]
              simp only [rng1R, if_pos (show -(2 ^ 62) ≤ j ∧ j < 2 ^ 62 from ⟨hlow, hb⟩)]
              exact m
            · right
              refine ⟨F, ev, fi, ?_⟩
              rw [h1]
              intro F1 vs H1 s va
              obtain ⟨v, r, rfl, _, hv, hr⟩ := va
              obtain rfl : r = [] := hr
              refine ⟨j, by rw [hv.rd.int], by omega, ?_⟩
              have : j.toNat = 0 := by omega
              rw [this] at m
              exact m F1 H1 _ s yields_range
          · cases hm'
        · cases hm'
        · cases hm'
      · rename_i C hm'
        split at hm' <;> first | (split at hm' <;> cases hm') | cases hm'
        rename_i he; cases he
      · exact m.elim
end
end L3
namespace L3
open PySem L2
end L3
set_option Elab.async false
set_option linter.all false
set_option maxRecDepth 100000
namespace L3
open PySem L2
section
variable {X : Cx} {K : PySem.W.Frag} {F0 H0 : Hp} {Ψ : Psi} {σ : St} {H : Hp}
variable {a b c : Expr} {f1 f2 f3 : Ev → R} {apos cpos : Pos}
end
end L3
set_option Elab.async false
set_option linter.all false
set_option maxRecDepth 100000
namespace L3
open PySem L2
section
variable {X : Cx} {K : PySem.W.Frag} {F0 H0 : Hp} {Ψ : Psi} {σ : St} {H : Hp}
variable {c : Expr} {f : Ev → R} {g : Ev → Fl} {body : List Stmt} {x y : Str} {p1 p2 pi pos : Pos}
end
end L3
set_option Elab.async false
set_option linter.all false
set_option maxRecDepth 100000
namespace TSrt
open PySem PySem.W PyProof.Rows
noncomputable def gallop' : Bool → Keyed → Array Keyed → Nat → Nat → Nat → StateT SortSt Sem (Option Nat) := sortPriv% PySem.Builtin.gallop
section
variable {M : Model} {A : Around} {E : Value → Shared → Prop} {σ : Type}
theorem kasC_mono {α : Type} {m : StateT σ Sem α} {Q Q' : α → σ → Shared → Prop} {st : σ} {s : Shared} (h : kasC M A E m Q st s) (i : ∀ a st' s', Q a st' s' → Q' a st' s') : kasC M A E m Q' st s := by
  unfold kasC at h ⊢
  exact wpAny_mono h (fun r s' q => i _ _ _ q) fun _ _ e => e
theorem kasC_loop {β : Type} {f : Nat → β → StateT σ Sem (ForInStep β)} {Q : β → σ → Shared → Prop} {st : σ} (I : Nat → β → Shared → Prop) (J : β → Shared → Prop) :
    ∀ {n k a : Nat} {b : β} {s : Shared}, (∀ j b s, I j b s → ∀ x, j < k + n → kasC M A E (f x b) (fun r st' s' => st' = st ∧ match r with | .done b' => J b' s' | .yield b' => I (j + 1) b' s') st s) → (∀ b s, I (k + n) b s → J b s) → (∀ b s, J b s → Q b st s) → I k b s →
      kasC M A E (forIn (List.range' a n) b f) Q st s
  | 0, k, a, b, s, _, fin, out, h => by
    show kasC M A E (forIn ([] : List Nat) b f) Q st s
    exact kasC_nil (out _ _ (fin _ _ h))
  | n + 1, k, a, b, s, step, fin, out, h => by
    rw [List.range'_succ]
    refine kasC_cons (kasC_mono (step k b s h a (by omega)) fun r st' s' q => ?_)
    obtain ⟨rfl, q⟩ := q
    cases r with
    | done b' => exact out _ _ q
    | yield b' => exact kasC_loop I J (n := n) (k := k + 1) (fun j b s hj x hx => step j b s hj x (by omega)) (fun b s z => fin b s (by rw [show k + (n + 1) = k + 1 + n by omega]; exact z)) out q
theorem kasC_for {β : Type} {n : Nat} {b : β} {f : Nat → β → StateT σ Sem (ForInStep β)} {Q : β → σ → Shared → Prop} {st : σ} {s : Shared} (I : Nat → β → Shared → Prop) (J : β → Shared → Prop)
    (step : ∀ j b s, I j b s → ∀ x, j < n → kasC M A E (f x b) (fun r st' s' => st' = st ∧ match r with | .done b' => J b' s' | .yield b' => I (j + 1) b' s') st s) (fin : ∀ b s, I n b s → J b s) (out : ∀ b s, J b s → Q b st s) (h : I 0 b s) :
    kasC M A E (forIn [0:n] b f) Q st s := by
  refine kasC_range ?_
  rw [Nat.sub_zero]
  exact kasC_loop I J (n := n) (k := 0) (fun j b s hj x hx => step j b s hj x (by omega)) (fun b s z => fin b s (by rw [Nat.zero_add] at z; exact z)) out h
end
section
variable {M : Model} {A : Around} {E : Value → Shared → Prop}
noncomputable def beyond (left : Bool) (key : Keyed) (arr : Array Keyed) (base i : Nat) : StateT SortSt Sem (Option Bool) := elem' arr (base + i) >>= fun x => if left = true then lt' x key else lt' key x >>= fun r => pure (r.map fun x => !x)
structure Edge (B : Nat → Bool) (n k : Nat) : Prop where
  le : k ≤ n
  lo : ∀ i, i < k → B i = true
  hi : k < n → B k = false
theorem gallop_ok {left : Bool} {key : Keyed} {arr : Array Keyed} {base n hint : Nat} {st : SortSt} {s : Shared} {Q : Option Nat → SortSt → Shared → Prop} {G : Shared → Prop} {B : Nat → Bool}
    (hB : ∀ i, i < n → ∀ s, G s → kasC M A E (beyond left key arr base i) (fun r st' s' => r = some (B i) ∧ st' = st ∧ G s') st s) (mono : ∀ i j, i ≤ j → j < n → B j = true → B i = true) (hh : hint < n) (g : G s)
    (q : ∀ k s', Edge B n k → G s' → Q (some k) st s') : kasC M A E (gallop' left key arr base n hint) Q st s := by
  have search : ∀ (lo hi : Nat) (s : Shared), G s → lo ≤ hi → hi ≤ n → (∀ i, i < lo → B i = true) → (hi < n → B hi = false) → ∀ f : Nat → Option (Option Nat) × Nat × Nat → StateT SortSt Sem (ForInStep (Option (Option Nat) × Nat × Nat)),
      (∀ x lo hi s, G s → lo < hi → hi ≤ n → kasC M A E (f x (none, lo, hi)) (fun r st' s' => st' = st ∧ G s' ∧ r = .yield (if B (lo + (hi - lo) / 2) then (none, lo + (hi - lo) / 2 + 1, hi) else (none, lo, lo + (hi - lo) / 2))) st s) →
      (∀ x lo hi s, G s → hi ≤ lo → kasC M A E (f x (none, lo, hi)) (fun r st' s' => st' = st ∧ G s' ∧ r = .done (none, lo, hi)) st s) →
      kasC M A E (forIn [0:n] (none, lo, hi) f) (fun b st' s' => st' = st ∧ G s' ∧ ∃ k, b = (none, k, k) ∧ Edge B n k) st s := fun lo hi s g h1 h2 h3 h4 f f1 f2 => by
    refine kasC_for (fun j b s => G s ∧ ∃ lo hi, b = (none, lo, hi) ∧ lo ≤ hi ∧ hi ≤ n ∧ (∀ i, i < lo → B i = true) ∧ (hi < n → B hi = false) ∧ hi ≤ lo + (n - j)) (fun b s => G s ∧ ∃ k, b = (none, k, k) ∧ Edge B n k) ?_ ?_ (fun b s z => ⟨rfl, z⟩) ⟨g, lo, hi, rfl, h1, h2, h3, h4, by (clear h1 hh; omega)⟩
    · rintro j _ s ⟨g, lo, hi, rfl, h1, h2, h3, h4, h5⟩ x hj
      by_cases c : lo < hi
      · refine kasC_mono (f1 x lo hi s g c h2) fun r st' s' z => ?_
        obtain ⟨rfl, g', rfl⟩ := z
        refine ⟨rfl, ?_⟩
        cases e : B (lo + (hi - lo) / 2) with
        | true => exact ⟨g', lo + (hi - lo) / 2 + 1, hi, by simp, by (clear hj h5 h2 h1 hh; omega), h2, fun i hi' => mono i _ (by (clear c hj h5 h2 h1 hh; omega)) (by (clear hi' hj h5 h1 hh; omega)) e, h4, by (clear c hj h2 h1 hh; omega)⟩
        | false => exact ⟨g', lo, lo + (hi - lo) / 2, by simp, by (clear c hj h5 h2 h1 hh; omega), by (clear c hj h5 hh; omega), h3, fun _ => e, by (clear c hj h2 h1 hh; omega)⟩
      · refine kasC_mono (f2 x lo hi s g (by (clear hj h5 h2 h1 hh; omega))) fun r st' s' z => ?_
        obtain ⟨rfl, g', rfl⟩ := z
        obtain rfl : lo = hi := by (clear hj h5 h2 hh; omega)
        exact ⟨rfl, g', lo, rfl, h2, h3, h4⟩
    · rintro _ s ⟨g, lo, hi, rfl, h1, h2, h3, h4, h5⟩
      obtain rfl : lo = hi := by (clear h2 hh; omega)
      exact ⟨g, lo, rfl, h2, h3, h4⟩
  unfold gallop'
  refine kasC_bind (kasC_mono (hB hint hh s g) fun r st' s' z => ?_)
  obtain ⟨rfl, rfl, g'⟩ := z
  cases hb : B hint with
  | true =>
    dsimp only
    rw [if_pos rfl]
    refine kasC_bind ?_
    refine kasC_for (fun j b s => G s ∧ ∃ lastofs ofs, b = (none, lastofs, ofs) ∧ lastofs < ofs ∧ j < ofs ∧ hint + lastofs < n ∧ B (hint + lastofs) = true) (fun b s => G s ∧ ∃ lastofs ofs, b = (none, lastofs, ofs) ∧ lastofs < ofs ∧ hint + lastofs < n ∧ B (hint + lastofs) = true ∧ (hint + ofs < n → B (hint + ofs) = false)) ?_ ?_ ?_ ⟨g', 0, 1, rfl, by (clear hh; omega), by (clear hh; omega), hh, hb⟩
    · rintro j _ s ⟨g, lastofs, ofs, rfl, h1, h2, h3, h4⟩ x hj
      dsimp only
      by_cases c : ofs ≥ n - hint
      · rw [if_pos c]
        exact kasC_pure ⟨rfl, g, lastofs, ofs, rfl, h1, h3, h4, fun z => by (clear hj h3 h2 h1 hh; omega)⟩
      · rw [if_neg c]
        refine kasC_bind (kasC_mono (hB (hint + ofs) (by (clear hj h3 h2 h1 hh; omega)) s g) fun r st' s' z => ?_)
        obtain ⟨rfl, rfl, g'⟩ := z
        dsimp only
        cases e : B (hint + ofs) with
        | true => exact kasC_pure ⟨rfl, g', ofs, 2 * ofs + 1, rfl, by (clear c hj h3 h2 h1 hh; omega), by (clear c hj h3 h1 hh; omega), by (clear hj h3 h2 h1 hh; omega), e⟩
        | false => exact kasC_pure ⟨rfl, g', lastofs, ofs, rfl, h1, h3, h4, fun _ => e⟩
    · rintro _ s ⟨g, lastofs, ofs, rfl, h1, h2, h3, h4⟩
      exact ⟨g, lastofs, ofs, rfl, h1, h3, h4, fun z => by (clear h3 h1 hh; omega)⟩
    · rintro _ s ⟨g, lastofs, ofs, rfl, h1, h3, h4, h5⟩
      dsimp only
      refine kasC_bind (kasC_mono (search (hint + lastofs + 1) (hint + min ofs (n - hint)) s g (by (clear hh; omega)) (by (clear h3 h1; omega)) (fun i hi => mono i _ (by (clear h3 h1 hh; omega)) h3 h4) (fun z => ?_) _ ?_ ?_) fun b st' s' z => ?_)
      · have : min ofs (n - hint) = ofs := by (clear h3 h1 hh; omega)
        rw [this] at z ⊢; exact h5 z
      · intro x lo hi s g h1 h2
        dsimp only
        rw [if_neg (by (clear h2 h3 hh; omega))]
        refine kasC_bind (kasC_mono (hB (lo + (hi - lo) / 2) (by (clear h3 hh; omega)) s g) fun r st' s' z => ?_)
        obtain ⟨rfl, rfl, g'⟩ := z
        dsimp only
        cases e : B (lo + (hi - lo) / 2) with
        | true => exact kasC_pure ⟨rfl, g', rfl⟩
        | false => exact kasC_pure ⟨rfl, g', rfl⟩
      · intro x lo hi s g h1
        dsimp only
        rw [if_pos (by (clear h3 hh; omega))]
        exact kasC_pure ⟨rfl, g, rfl⟩
      · obtain ⟨rfl, g', k, rfl, ed⟩ := z
        exact kasC_pure (q k s' ed g')
  | false =>
    dsimp only
    rw [if_neg Bool.false_ne_true]
    refine kasC_bind ?_
    refine kasC_for (fun j b s => G s ∧ ∃ lastofs ofs, b = (none, lastofs, ofs) ∧ lastofs < ofs ∧ j < ofs ∧ lastofs ≤ hint ∧ B (hint - lastofs) = false) (fun b s => G s ∧ ∃ lastofs ofs, b = (none, lastofs, ofs) ∧ lastofs < ofs ∧ lastofs ≤ hint ∧ B (hint - lastofs) = false ∧ (ofs ≤ hint → B (hint - ofs) = true)) ?_ ?_ ?_ ⟨g', 0, 1, rfl, by (clear hh; omega), by (clear hh; omega), by (clear hh; omega), hb⟩
    · rintro j _ s ⟨g, lastofs, ofs, rfl, h1, h2, h3, h4⟩ x hj
      dsimp only
      by_cases c : ofs ≥ hint + 1
      · rw [if_pos c]
        exact kasC_pure ⟨rfl, g, lastofs, ofs, rfl, h1, h3, h4, fun z => by (clear hj h3 h2 h1 hh; omega)⟩
      · rw [if_neg c]
        refine kasC_bind (kasC_mono (hB (hint - ofs) (by (clear c hj h3 h2 h1; omega)) s g) fun r st' s' z => ?_)
        obtain ⟨rfl, rfl, g'⟩ := z
        dsimp only
        cases e : B (hint - ofs) with
        | true => exact kasC_pure ⟨rfl, g', lastofs, ofs, rfl, h1, h3, h4, fun _ => e⟩
        | false => exact kasC_pure ⟨rfl, g', ofs, 2 * ofs + 1, rfl, by (clear c hj h3 h2 h1 hh; omega), by (clear c hj h3 h1 hh; omega), by (clear hj h3 h2 h1 hh; omega), e⟩
    · rintro _ s ⟨g, lastofs, ofs, rfl, h1, h2, h3, h4⟩
      exact ⟨g, lastofs, ofs, rfl, h1, h3, h4, fun z => by (clear h3 h1; omega)⟩
    · rintro _ s ⟨g, lastofs, ofs, rfl, h1, h3, h4, h5⟩
      dsimp only
      refine kasC_bind (kasC_mono (search (hint + 1 - min ofs (hint + 1)) (hint - lastofs) s g (by (clear h3 hh; omega)) (by (clear h3 h1; omega)) (fun i hi => mono i (hint - ofs) (by (clear h3 h1 hh; omega)) (by (clear hi h3 h1; omega)) (h5 (by (clear h3 h1 hh; omega)))) (fun _ => h4) _ ?_ ?_) fun b st' s' z => ?_)
      · intro x lo hi s g h1 h2
        dsimp only
        rw [if_neg (by (clear h2 h3 hh; omega))]
        refine kasC_bind (kasC_mono (hB (lo + (hi - lo) / 2) (by (clear h3 hh; omega)) s g) fun r st' s' z => ?_)
        obtain ⟨rfl, rfl, g'⟩ := z
        dsimp only
        cases e : B (lo + (hi - lo) / 2) with
        | true => exact kasC_pure ⟨rfl, g', rfl⟩
        | false => exact kasC_pure ⟨rfl, g', rfl⟩
      · intro x lo hi s g h1
        dsimp only
        rw [if_pos (by (clear h3 hh; omega))]
        exact kasC_pure ⟨rfl, g, rfl⟩
      · obtain ⟨rfl, g', k, rfl, ed⟩ := z
        exact kasC_pure (q k s' ed g')
end
end TSrt
set_option Elab.async false
set_option linter.all false
set_option maxRecDepth 100000
namespace TSrt
open PySem PySem.W PyProof.Rows
section
variable {M : Model} {A : Around} {E : Value → Shared → Prop} {σ : Type}
theorem kasC_ev {β : Type} {f : Nat → β → StateT σ Sem (ForInStep β)} {Q : β → σ → Shared → Prop} (I : Nat → β → σ → Shared → Prop) {b : Nat} (fin : ∀ c st s, I b c st s → Q c st s) :
    ∀ {n a : Nat} {c : β} {st : σ} {s : Shared}, a + n = b → (∀ i c st s, a ≤ i → i < b → I i c st s → kasC M A E (f i c) (fun r st' s' => match r with | .done c' => Q c' st' s' | .yield c' => I (i + 1) c' st' s') st s) → I a c st s → kasC M A E (forIn (List.range' a n) c f) Q st s
  | 0, a, c, st, s, e, _, h => kasC_nil (fin _ _ _ (by have : a = b := by omega
                                                       rw [← this]; exact h))
  | n + 1, a, c, st, s, e, step, h => by
    rw [List.range'_succ]
    refine kasC_cons (kasC_mono (step a c st s (Nat.le_refl _) (by omega) h) fun r st' s' q => ?_)
    cases r with
    | done b' => exact q
    | yield b' => exact kasC_ev I fin (by omega) (fun i c st s h1 h2 h3 => step i c st s (by (clear h2 e; omega)) h2 h3) q
theorem kasC_rg {β : Type} {a b : Nat} {c : β} {f : Nat → β → StateT σ Sem (ForInStep β)} {Q : β → σ → Shared → Prop} {st : σ} {s : Shared} (I : Nat → β → σ → Shared → Prop)
    (step : ∀ i c st s, a ≤ i → i < b → I i c st s → kasC M A E (f i c) (fun r st' s' => match r with | .done c' => Q c' st' s' | .yield c' => I (i + 1) c' st' s') st s)
    (fin : ∀ c st s, I (max a b) c st s → Q c st s) (h : I a c st s) : kasC M A E (forIn [a:b] c f) Q st s := by
  refine kasC_range ?_
  by_cases hab : a ≤ b
  · have e : max a b = b := by omega
    rw [e] at fin
    exact kasC_ev I fin (by (clear e; omega)) step h
  · have e : max a b = a := by omega
    rw [e] at fin
    rw [show b - a = 0 by (clear e; omega)]
    exact kasC_nil (fin _ _ _ h)
theorem kasC_set {x : σ} {Q : PUnit → σ → Shared → Prop} {st : σ} {s : Shared} (h : Q ⟨⟩ x s) : kasC M A E (set x : StateT σ Sem PUnit) Q st s := by
  unfold kasC; rw [StateT.run_set]; exact wpAny_pure h
end
noncomputable def ats (xs : Array Keyed) (i : Nat) : Keyed := (xs[i]?).getD (.none, .none)
theorem ats_of {xs ys : Array Keyed} {i j : Nat} (h : xs[i]? = ys[j]?) : ats xs i = ats ys j := by unfold ats; rw [h]
theorem ats_at {xs : Array Keyed} {i : Nat} (h : i < xs.size) : xs[i]? = some (ats xs i) := by
  unfold ats; rw [getElem?_pos xs i h]; rfl
theorem ats_mem {xs : Array Keyed} {i : Nat} (h : i < xs.size) : ats xs i ∈ xs.toList := by
  have e := ats_at h
  rw [← Array.getElem?_toList] at e
  exact List.mem_of_getElem? e
theorem ats_rev {xs : Array Keyed} {i j : Nat} (hj : j ≤ xs.size) (k : Nat) : ats (mirror xs i j ((j - i) / 2)) k = if i ≤ k ∧ k < j then ats xs (i + j - 1 - k) else ats xs k := by
  have e := getElem?_mirror_all (i := i) hj k
  split at e
  · rename_i h; rw [if_pos h]; exact ats_of e
  · rename_i h; rw [if_neg h]; exact ats_of e
theorem ats_bub {xs : Array Keyed} {p d : Nat} (hs : p < xs.size) (hd : d ≤ p) (k : Nat) : ats (bubble xs p d) k = if k = p - d then ats xs p else if p - d < k ∧ k ≤ p then ats xs (k - 1) else ats xs k := by
  have e := getElem?_bubble hs d hd k
  split at e
  · rename_i h; rw [if_pos h]; exact ats_of e
  · rename_i h; rw [if_neg h]
    split at e
    · rename_i h; rw [if_pos h]; exact ats_of e
    · rename_i h; rw [if_neg h]; exact ats_of e
structure Sw (c : Keyed → Keyed → Bool) : Prop where
  asym : ∀ {x y}, c x y = true → c y x = false
  tr : ∀ {x y z}, c y x = false → c z y = false → c z x = false
theorem Sw.rf {c : Keyed → Keyed → Bool} (o : Sw c) (x : Keyed) : c x x = false := by
  cases e : c x x with
  | false => rfl
  | true => exact (o.asym e).symm.trans e |>.symm ▸ rfl
theorem Sw.le {c : Keyed → Keyed → Bool} (o : Sw c) {x y z : Keyed} (h : c x y = true) (g : c z y = false) : c x z = true := by
  cases e : c x z with
  | true => rfl
  | false => have := o.tr g e; rw [h] at this; exact this.symm
structure Od (c0 c : Keyed → Keyed → Bool) (ix : Keyed → Nat) : Prop where
  o0 : Sw c0
  o : Sw c
  ag : ∀ {x y}, ix y < ix x → c x y = c0 x y
  wk : ∀ {x y}, c0 x y = true → c x y = true
  eq : ∀ {x y}, c0 x y = false → c0 y x = false → ix x < ix y → c x y = true
theorem Od.of0 {c0 c : Keyed → Keyed → Bool} {ix : Keyed → Nat} (o : Od c0 c ix) {x y : Keyed} (h : c x y = false) : c0 x y = false := by
  cases e : c0 x y with
  | false => rfl
  | true => rw [o.wk e] at h; exact h
noncomputable def Loc (ix : Keyed → Nat) (xs : Array Keyed) (p q : Nat) : Prop := ∀ j, p ≤ j → j < q → p ≤ ix (ats xs j) ∧ ix (ats xs j) < q
noncomputable def Raw (ix : Keyed → Nat) (xs : Array Keyed) (q : Nat) : Prop := ∀ j, q ≤ j → j < xs.size → ix (ats xs j) = j
theorem Loc.more {ix : Keyed → Nat} {xs : Array Keyed} {p q q' : Nat} (h : Loc ix xs p q) (r : Raw ix xs q) (h1 : p ≤ q) (h2 : q ≤ q') (h3 : q' ≤ xs.size) : Loc ix xs p q' := fun j z1 z2 => by
  by_cases e : j < q
  · have := h j z1 e; (clear e z2 z1 h3 h1; omega)
  · have := r j (by (clear z2 z1 h3 h2 h1; omega)) (by (clear e z1 h2 h1; omega)); (clear e h3 h2 h1; omega)
theorem Raw.mono {ix : Keyed → Nat} {xs : Array Keyed} {q q' : Nat} (r : Raw ix xs q) (h : q ≤ q') : Raw ix xs q' := fun j z1 z2 => r j (by (clear z2; omega)) z2
noncomputable def Up (c : Keyed → Keyed → Bool) (xs : Array Keyed) (lo hi : Nat) : Prop := ∀ i j, lo ≤ i → i ≤ j → j < hi → c (ats xs j) (ats xs i) = false
noncomputable def Dn (c : Keyed → Keyed → Bool) (xs : Array Keyed) (lo hi : Nat) : Prop := ∀ i j, lo ≤ i → i ≤ j → j < hi → c (ats xs i) (ats xs j) = false
noncomputable def Keep (xs ys : Array Keyed) (lo : Nat) : Prop := ∀ i, i < lo → ats ys i = ats xs i
structure SB (κ : SortKind) (a0 : Array Keyed) (st : SortSt) : Prop where
  pm : (arrOf st).Perm a0
  kd : kindOf st = κ
  fd : failedOf st = none
theorem SB.sz {κ : SortKind} {a0 : Array Keyed} {st : SortSt} (h : SB κ a0 st) : (arrOf st).size = a0.size := h.pm.size_eq
theorem SB.mem {κ : SortKind} {a0 : Array Keyed} {st : SortSt} (h : SB κ a0 st) {i : Nat} (hi : i < a0.size) : ats (arrOf st) i ∈ a0.toList :=
  (Array.perm_iff_toList_perm.mp h.pm).mem_iff.mp (ats_mem (by rw [h.sz]; exact hi))
theorem SB.put {κ : SortKind} {a0 : Array Keyed} {st : SortSt} (h : SB κ a0 st) {xs : Array Keyed} (hp : xs.Perm (arrOf st)) : SB κ a0 (setArr st xs) := ⟨hp.trans h.pm, h.kd, h.fd⟩
noncomputable def Cmp (M : Model) (A : Around) (κ : SortKind) (a0 : Array Keyed) (c : Keyed → Keyed → Bool) (G : Shared → Prop) : Prop :=
  ∀ x y, x ∈ a0.toList → y ∈ a0.toList → ∀ s, G s → wpAny M A (keyLt' κ x.1 y.1) (fun b s' => b = c x y ∧ G s') (fun _ _ => False) s
section
variable {M : Model} {A : Around} {E : Value → Shared → Prop} {κ : SortKind} {a0 : Array Keyed} {c0 c : Keyed → Keyed → Bool} {ix : Keyed → Nat} {G : Shared → Prop}
theorem el_ok {xs : Array Keyed} {i : Nat} {st : SortSt} {s : Shared} {Q : Keyed → SortSt → Shared → Prop} (hi : i < xs.size) (h : Q (ats xs i) st s) : kasC M A E (elem' xs i) Q st s := by
  rw [elem'_eq, ats_at hi]; exact kasC_pure h
theorem lt_ok (H : Cmp M A κ a0 c0 G) {x y : Keyed} {st : SortSt} {s : Shared} {Q : Option Bool → SortSt → Shared → Prop} (hk : kindOf st = κ) (hx : x ∈ a0.toList) (hy : y ∈ a0.toList) (g : G s) (h : ∀ s', G s' → Q (some (c0 x y)) st s') :
    kasC M A E (lt' x y) Q st s := by
  rw [lt'_eq]
  refine kasC_bind (kasC_get ?_)
  rw [hk]
  refine kasC_bind (kasC_lift (wpAny_attempt (wpAny_mono (H x y hx hy s g) (fun b s' z => ?_) fun _ _ z => z.elim)))
  obtain ⟨rfl, g'⟩ := z
  exact kasC_pure (h s' g')
theorem lt_ag (H : Cmp M A κ a0 c0 G) (o : Od c0 c ix) {x y : Keyed} {st : SortSt} {s : Shared} {Q : Option Bool → SortSt → Shared → Prop} (hi : ix y < ix x) (hk : kindOf st = κ) (hx : x ∈ a0.toList) (hy : y ∈ a0.toList) (g : G s) (h : ∀ s', G s' → Q (some (c x y)) st s') :
    kasC M A E (lt' x y) Q st s := lt_ok H hk hx hy g fun s' g' => by rw [← o.ag hi]; exact h s' g'
theorem lts_ok (H : Cmp M A κ a0 c0 G) {i j : Nat} {st : SortSt} {s : Shared} {Q : Option Bool → SortSt → Shared → Prop} (b : SB κ a0 st) (hi : i < a0.size) (hj : j < a0.size) (g : G s)
    (h : ∀ s', G s' → Q (some (c0 (ats (arrOf st) i) (ats (arrOf st) j))) st s') : kasC M A E (ltAt' i j) Q st s := by
  rw [ltAt'_eq]
  refine kasC_bind (kasC_get ?_)
  refine kasC_bind (el_ok (by rw [b.sz]; exact hi) ?_)
  refine kasC_bind (el_ok (by rw [b.sz]; exact hj) ?_)
  exact lt_ok H b.kd (b.mem hi) (b.mem hj) g h
theorem bin_ok (H : Cmp M A κ a0 c0 G) (oo : Od c0 c ix) {st : SortSt} {s : Shared} {lo n ok : Nat} {Q : Bool → SortSt → Shared → Prop} (hn : lo + n ≤ a0.size) (hok : ok ≤ n) (b : SB κ a0 st) (hs : Up c (arrOf st) lo (lo + ok)) (hl : Loc ix (arrOf st) lo (lo + ok)) (hr : Raw ix (arrOf st) (lo + ok)) (g : G s)
    (h : ∀ st' s', SB κ a0 st' → pendingOf st' = pendingOf st → Up c (arrOf st') lo (lo + n) → Loc ix (arrOf st') lo (lo + n) → Raw ix (arrOf st') (lo + n) → Keep (arrOf st) (arrOf st') lo → G s' → Q true st' s') : kasC M A E (binarySort' lo n ok) Q st s := by
  have o := oo.o
  rw [binarySort'_eq]
  refine kasC_bind (kasC_rg (fun k d st' s' => d = (none, ()) ∧ SB κ a0 st' ∧ pendingOf st' = pendingOf st ∧ Keep (arrOf st) (arrOf st') lo ∧ Up c (arrOf st') lo (lo + min k n) ∧ Loc ix (arrOf st') lo (lo + min k n) ∧ Raw ix (arrOf st') (lo + min k n) ∧ G s') ?_ ?_ ?_)
  · rintro k _ st' s' hk1 hk2 ⟨rfl, b', p', kp, up, lc, rw', g'⟩
    rw [show min k n = k by omega] at up lc rw'
    have hsz := b'.sz
    refine kasC_bind (kasC_mono (Q := fun d st'' s'' => st'' = st' ∧ G s'' ∧ ∃ l r, d = (none, l, r) ∧ l ≤ k ∧
      (∀ i, i < l → c (ats (arrOf st') (lo + k)) (ats (arrOf st') (lo + i)) = false) ∧ (∀ i, l ≤ i → i < k → c (ats (arrOf st') (lo + k)) (ats (arrOf st') (lo + i)) = true))
      (kasC_rg (fun x d st'' s'' => st'' = st' ∧ G s'' ∧ ∃ l r, d = (none, l, r) ∧ l ≤ r ∧ r ≤ k ∧ r - l ≤ k - x ∧
      (∀ i, i < l → c (ats (arrOf st') (lo + k)) (ats (arrOf st') (lo + i)) = false) ∧ (∀ i, r ≤ i → i < k → c (ats (arrOf st') (lo + k)) (ats (arrOf st') (lo + i)) = true)) ?_ ?_ ?_) ?_)
    · rintro x _ st'' s'' _ hx ⟨rfl, g'', l, r, rfl, h1, h2, h3, h4, h5⟩
      dsimp only
      by_cases e : l ≥ r
      · rw [if_pos e]
        have e' : l = r := by (clear h3 h2 hsz hx hk2 hk1 hok hn; omega)
        subst e'
        exact kasC_pure ⟨rfl, g'', l, l, rfl, h2, h4, h5⟩
      · rw [if_neg e]
        refine kasC_bind (lts_ok H b' (by (clear e h3 h2 h1 hsz hx hk1 hok; omega)) (by (clear e h3 hsz hx hk1 hok; omega)) g'' fun s3 g3 => ?_)
        dsimp only
        have ag := oo.ag (x := ats (arrOf st'') (lo + k)) (y := ats (arrOf st'') (lo + (l + r) / 2)) (by
          have z1 := rw' (lo + k) (Nat.le_refl _) (by (clear e h3 h2 h1 hx hk1 hok; omega))
          have z2 := lc (lo + (l + r) / 2) (by (clear z1 e h3 h2 h1 hsz hx hk2 hk1 hok hn; omega)) (by (clear z1 h3 h1 hsz hx hk2 hk1 hok hn; omega))
          (clear e h3 h2 h1 hsz hx hk2 hk1 hok hn; omega))
        rw [← ag]
        cases q : c (ats (arrOf st'') (lo + k)) (ats (arrOf st'') (lo + (l + r) / 2)) with
        | true =>
          refine kasC_pure ⟨rfl, g3, l, (l + r) / 2, rfl, by (clear e h3 h2 hsz hx hk2 hk1 hok hn; omega), by (clear e h3 hsz hx hk2 hk1 hok hn; omega), by (clear e h2 h1 hsz hx hk2 hk1 hok hn; omega), h4, fun i z1 z2 => ?_⟩
          cases q2 : c (ats (arrOf st'') (lo + k)) (ats (arrOf st'') (lo + i)) with
          | true => rfl
          | false =>
            have := o.tr (up (lo + (l + r) / 2) (lo + i) (by (clear z2 z1 e h3 h2 h1 hsz hx hk2 hk1 hok hn; omega)) (by (clear z2 e h3 h2 h1 hsz hx hk2 hk1 hok hn; omega)) (by (clear z1 e h3 h2 h1 hsz hx hk2 hk1 hok hn; omega))) q2
            rw [q] at this; exact this.symm
        | false =>
          refine kasC_pure ⟨rfl, g3, (l + r) / 2 + 1, r, rfl, by (clear h3 h2 h1 hsz hx hk2 hk1 hok hn; omega), by (clear e h3 h1 hsz hx hk2 hk1 hok hn; omega), by (clear e h2 h1 hsz hx hk2 hk1 hok hn; omega), fun i z1 => ?_, h5⟩
          exact o.tr (up (lo + i) (lo + (l + r) / 2) (by (clear z1 e h3 h2 h1 hsz hx hk2 hk1 hok hn; omega)) (by (clear e h3 h2 h1 hsz hx hk2 hk1 hok hn; omega)) (by (clear z1 h3 h1 hsz hx hk2 hk1 hok hn; omega))) q
    · rintro _ st'' s'' ⟨rfl, g'', l, r, rfl, h1, h2, h3, h4, h5⟩
      have e' : l = r := by (clear h2 hsz hk2 hk1 hok hn; omega)
      subst e'
      exact ⟨rfl, g'', l, l, rfl, h2, h4, h5⟩
    · exact ⟨rfl, g', 0, k, rfl, by (clear hsz hk2 hk1 hok hn; omega), by (clear hsz hk2 hk1 hok hn; omega), by (clear hsz hk2 hk1 hok hn; omega), fun i z => by (clear hsz hk2 hk1 hok hn; omega), fun i z1 z2 => by (clear hsz hk2 hk1 hok hn; omega)⟩
    · rintro _ st'' s'' ⟨rfl, g'', l, r, rfl, h2, h4, h5⟩
      show kasC M A E (moveDown' (lo + k) (lo + l) >>= fun _ => pure (ForInStep.yield (none, ()))) _ _ _
      rw [moveDown'_eq]
      have bub : ∀ j, ats (bubble (arrOf st'') (lo + k) (lo + k - (lo + l))) j = if j = lo + l then ats (arrOf st'') (lo + k) else if lo + l < j ∧ j ≤ lo + k then ats (arrOf st'') (j - 1) else ats (arrOf st'') j := fun j => by
        rw [ats_bub (by (clear h2 hk1 hok; omega)) (by (clear h2 hsz hk2 hk1 hok hn; omega)), show lo + k - (lo + k - (lo + l)) = lo + l by (clear hsz hk2 hk1 hok hn; omega)]
      have rk := rw' (lo + k) (Nat.le_refl _) (by (clear h2 hk1 hok; omega))
      refine kasC_bind (kasC_modify (kasC_pure ⟨rfl, b'.put (bubble_perm _ _ _), p', ?_, ?_, ?_, ?_, g''⟩))
      · intro i hi
        show ats (bubble (arrOf st'') (lo + k) (lo + k - (lo + l))) i = _
        rw [bub, if_neg (by (clear rk h2 hsz hk2 hk1 hok hn; omega)), if_neg (by (clear rk h2 hsz hk2 hk1 hok hn; omega))]
        exact kp i hi
      · rw [show min (k + 1) n = k + 1 by (clear rk h2 hsz hk1 hok hn; omega)]
        intro i j hi hij hj
        show c (ats (bubble (arrOf st'') (lo + k) (lo + k - (lo + l))) j) (ats (bubble (arrOf st'') (lo + k) (lo + k - (lo + l))) i) = false
        rw [bub, bub]
        have w1 : ∀ t, lo ≤ t → t < lo + l → c (ats (arrOf st'') (lo + k)) (ats (arrOf st'') t) = false := fun t z1 z2 => by
          have := h4 (t - lo) (by (clear hj hij hi rk h2 hsz hk2 hk1 hok hn; omega)); rwa [show lo + (t - lo) = t by (clear z2 hj hij hi rk h2 hsz hk2 hk1 hok hn; omega)] at this
        have w2 : ∀ t, lo + l ≤ t → t < lo + k → c (ats (arrOf st'') (lo + k)) (ats (arrOf st'') t) = true := fun t z1 z2 => by
          have := h5 (t - lo) (by (clear z2 hj hij hi rk h2 hsz hk2 hk1 hok hn; omega)) (by (clear z1 hj hij hi rk h2 hsz hk2 hok hn; omega)); rwa [show lo + (t - lo) = t by (clear z2 hj hij hi rk h2 hsz hk2 hk1 hok hn; omega)] at this
        repeat' split
        all_goals first
          | (exfalso; omega)
          | exact o.rf _
          | exact w1 _ (by omega) (by omega)
          | exact o.asym (w2 _ (by (clear hj hij hi rk h2 hsz hk2 hk1 hok hn; omega)) (by (clear hj hij hi rk h2 hsz hk2 hk1 hok hn; omega)))
          | exact up _ _ (by omega) (by omega) (by omega)
      · rw [show min (k + 1) n = k + 1 by (clear rk h2 hsz hk1 hok hn; omega)]
        intro j z1 z2
        show lo ≤ ix (ats (bubble (arrOf st'') (lo + k) (lo + k - (lo + l))) j) ∧ ix (ats (bubble (arrOf st'') (lo + k) (lo + k - (lo + l))) j) < lo + (k + 1)
        rw [bub]
        split
        · (clear z2 z1 h2 hsz hk2 hk1 hok hn; omega)
        · split
          · have := lc (j - 1) (by (clear z2 z1 rk h2 hsz hk2 hk1 hok hn; omega)) (by (clear z2 z1 rk h2 hsz hk2 hk1 hok hn; omega)); (clear z2 z1 rk h2 hsz hk2 hk1 hok hn; omega)
          · have := lc j (by (clear z2 rk h2 hsz hk2 hk1 hok hn; omega)) (by (clear z1 rk hsz hk2 hk1 hok hn; omega)); (clear z2 z1 rk h2 hsz hk2 hk1 hok hn; omega)
      · rw [show min (k + 1) n = k + 1 by (clear rk h2 hsz hk1 hok hn; omega)]
        intro j z1 z2
        have z2 : j < (bubble (arrOf st'') (lo + k) (lo + k - (lo + l))).size := z2
        rw [bubble_size] at z2
        show ix (ats (bubble (arrOf st'') (lo + k) (lo + k - (lo + l))) j) = j
        rw [bub, if_neg (by (clear z2 rk hsz hk2 hk1 hok hn; omega)), if_neg (by (clear z2 rk h2 hsz hk2 hk1 hok hn; omega))]
        exact rw' j (by (clear z2 rk h2 hsz hk2 hk1 hok hn; omega)) z2
  · rintro _ st' s' ⟨rfl, b', p', kp, up, lc, rw', g'⟩
    rw [show min (max (max ok 1) n) n = n by omega] at up lc rw'
    exact kasC_pure (h st' s' b' p' up lc rw' kp g')
  · have hsz := b.sz
    refine ⟨rfl, b, rfl, fun i _ => rfl, ?_, ?_, ?_, g⟩
    · intro i j hi hij hj
      by_cases z : ok = 0
      · have : i = j := by (clear hsz hok hn; omega)
        subst this; exact o.rf _
      · exact hs i j hi hij (by (clear hij hi hsz hok hn; omega))
    · exact hl.more hr (by (clear hsz hok hn; omega)) (by (clear hsz hn; omega)) (by (clear hok; omega))
    · exact hr.mono (by (clear hsz hn; omega))
theorem asc_ok (o : Sw c) {f : Nat → Option (Option Nat) × Nat → StateT SortSt Sem (ForInStep (Option (Option Nat) × Nat))} {st : SortSt} {s : Shared} {lo nrem a : Nat} {Q : Option (Option Nat) × Nat → SortSt → Shared → Prop} (ha : 1 ≤ a) (han : a ≤ nrem) (g : G s)
    (up : Up c (arrOf st) lo (lo + a))
    (hf : ∀ x n s, G s → a ≤ n → n < nrem → kasC M A E (f x (none, n)) (fun r st' s' => st' = st ∧ G s' ∧ r = if c (ats (arrOf st) (lo + n)) (ats (arrOf st) (lo + n - 1)) = true then .done (none, n) else .yield (none, n + 1)) st s)
    (h : ∀ n s', a ≤ n → n ≤ nrem → Up c (arrOf st) lo (lo + n) → (n < nrem → c (ats (arrOf st) (lo + n)) (ats (arrOf st) (lo + n - 1)) = true) → G s' → Q (none, n) st s') : kasC M A E (forIn [a:nrem] (none, a) f) Q st s := by
  refine kasC_rg (fun k d st' s' => d = (none, k) ∧ st' = st ∧ G s' ∧ Up c (arrOf st) lo (lo + k)) ?_ ?_ ⟨rfl, rfl, g, up⟩
  · rintro k _ _ s' h1 h2 ⟨rfl, rfl, g', up'⟩
    refine kasC_mono (hf k k s' g' h1 h2) fun r st2 s2 z => ?_
    obtain ⟨rfl, g2, rfl⟩ := z
    cases q : c (ats (arrOf st2) (lo + k)) (ats (arrOf st2) (lo + k - 1)) with
    | true => rw [if_pos rfl]; exact h k s2 h1 (by (clear h1 han ha; omega)) up' (fun _ => q) g2
    | false =>
      rw [if_neg (by simp)]
      refine ⟨rfl, rfl, g2, fun i j z1 z2 z3 => ?_⟩
      by_cases e : j = lo + k
      · subst e
        by_cases e2 : i = lo + k
        · subst e2; exact o.rf _
        · exact o.tr (up' i (lo + k - 1) z1 (by (clear z3 z1 h2 h1 han ha; omega)) (by (clear e2 z3 z2 z1 h2 han; omega))) q
      · exact up' i j z1 z2 (by (clear z2 z1 h2 h1 han ha; omega))
  · rintro _ _ s' ⟨rfl, rfl, g', up'⟩
    rw [show max a nrem = nrem by omega] at up' ⊢
    exact h nrem s' han (Nat.le_refl _) up' (fun z => absurd z (Nat.lt_irrefl _)) g'
theorem rev_up {xs : Array Keyed} {lo hi : Nat} (hj : hi ≤ xs.size) (d : Dn c xs lo hi) : Up c (mirror xs lo hi ((hi - lo) / 2)) lo hi := fun i j h1 h2 h3 => by
  rw [ats_rev hj, ats_rev hj, if_pos (by (clear hj; omega)), if_pos (by (clear hj; omega))]
  exact d _ _ (by (clear h2 h1 hj; omega)) (by (clear h3 h1 hj; omega)) (by (clear h2 hj; omega))
theorem rev_keep {xs : Array Keyed} {lo hi l0 : Nat} (hj : hi ≤ xs.size) (h : l0 ≤ lo) : Keep xs (mirror xs lo hi ((hi - lo) / 2)) l0 := fun i h1 => by
  rw [ats_rev hj, if_neg (by (clear hj; omega))]
theorem Keep.trans {xs ys zs : Array Keyed} {l : Nat} (h : Keep xs ys l) (k : Keep ys zs l) : Keep xs zs l := fun i z => (k i z).trans (h i z)
theorem ag_at {xs : Array Keyed} {lo m m' : Nat} (oo : Od c0 c ix) (l : Loc ix xs lo (lo + m)) (r : Raw ix xs (lo + m)) (h : m ≤ m') (h1 : 1 ≤ m') (hz : lo + m' < xs.size) : c (ats xs (lo + m')) (ats xs (lo + m' - 1)) = c0 (ats xs (lo + m')) (ats xs (lo + m' - 1)) := by
  refine oo.ag ?_
  have z1 := r (lo + m') (by (clear hz h1; omega)) hz
  by_cases q : m' = m
  · subst q; have := l (lo + m' - 1) (by (clear h z1 hz; omega)) (by (clear h z1 hz; omega)); (clear h hz h1; omega)
  · have := r (lo + m' - 1) (by (clear z1 hz h1; omega)) (by (clear q z1 h1 h; omega)); (clear q hz h; omega)
structure Blk (c0 c : Keyed → Keyed → Bool) (ix : Keyed → Nat) (xs : Array Keyed) (lo p m : Nat) : Prop where
  lp : lo ≤ p
  pm : p < m
  mz : m ≤ xs.size
  dn : Dn c xs lo p
  lc : Loc ix xs lo p
  gt : ∀ i j, lo ≤ i → i < p → p ≤ j → j < m → c0 (ats xs j) (ats xs i) = true
  eq : ∀ i j, p ≤ i → i < m → p ≤ j → j < m → c0 (ats xs i) (ats xs j) = false
  raw : Raw ix xs p
theorem Blk.turn {xs : Array Keyed} {lo p m : Nat} (oo : Od c0 c ix) (h : Blk c0 c ix xs lo p m) : Dn c (mirror xs p m ((m - p) / 2)) lo m ∧ Loc ix (mirror xs p m ((m - p) / 2)) lo m ∧ Raw ix (mirror xs p m ((m - p) / 2)) m := by
  have e := ats_rev (i := p) h.mz
  have lp := h.lp; have pm := h.pm; have mz := h.mz
  refine ⟨fun i j z1 z2 z3 => ?_, fun j z1 z2 => ?_, fun j z1 z2 => ?_⟩
  · rw [e, e]
    by_cases c1 : p ≤ i ∧ i < m
    · rw [if_pos c1, if_pos (by (clear z1 mz pm lp; omega))]
      by_cases q : i = j
      · subst q; exact oo.o.rf _
      · refine oo.o.asym (oo.eq (h.eq _ _ (by (clear q c1 z2 z1 mz pm lp; omega)) (by (clear q z3 z1 mz pm lp; omega)) (by (clear q c1 z1 mz pm lp; omega)) (by (clear q z3 z2 z1 mz pm lp; omega))) (h.eq _ _ (by (clear q c1 z1 mz pm lp; omega)) (by (clear q z3 z2 z1 mz pm lp; omega)) (by (clear q c1 z2 z1 mz pm lp; omega)) (by (clear q z3 z1 mz pm lp; omega))) ?_)
        rw [h.raw _ (by (clear q c1 z2 z1 mz pm lp; omega)) (by (clear q z3 z1 pm lp; omega)), h.raw _ (by (clear q c1 z1 mz pm lp; omega)) (by (clear q z3 z2 z1 pm lp; omega))]; (clear c1 z1 mz pm lp; omega)
    · rw [if_neg c1]
      by_cases c2 : p ≤ j ∧ j < m
      · rw [if_pos c2]
        exact oo.o.asym (oo.wk (h.gt _ _ z1 (by (clear c2 z1 mz pm lp; omega)) (by (clear c2 c1 z2 z1 mz pm lp; omega)) (by (clear c1 z3 z2 z1 mz pm lp; omega))))
      · rw [if_neg c2]; exact h.dn i j z1 z2 (by (clear c1 z2 z1 mz pm lp; omega))
  · rw [e]
    by_cases c1 : p ≤ j ∧ j < m
    · rw [if_pos c1, h.raw _ (by (clear c1 z1 mz pm lp; omega)) (by (clear z2 z1 pm lp; omega))]; (clear z2 z1 mz pm; omega)
    · rw [if_neg c1]; have := h.lc j z1 (by (clear z1 mz pm lp; omega)); (clear c1 z2 z1 mz lp; omega)
  · rw [mirror_size] at z2
    rw [e, if_neg (by (clear z2 mz pm lp; omega))]
    exact h.raw j (by (clear z2 mz lp; omega)) z2
theorem Blk.one {xs : Array Keyed} {lo p m : Nat} (oo : Od c0 c ix) (h : Blk c0 c ix xs lo p m) (e : m = p + 1) : Dn c xs lo m ∧ Loc ix xs lo m ∧ Raw ix xs m := by
  have lp := h.lp; have pm := h.pm; have mz := h.mz
  subst e
  refine ⟨fun i j z1 z2 z3 => ?_, h.lc.more h.raw lp (by (clear mz pm lp; omega)) mz, h.raw.mono (by (clear mz pm lp; omega))⟩
  by_cases q : j = p
  · subst q
    by_cases q2 : i = j
    · subst q2; exact oo.o.rf _
    · exact oo.o.asym (oo.wk (h.gt i j z1 (by (clear z3 mz pm lp z1; omega)) (by (clear q2 z3 mz pm lp z2 z1; omega)) (by (clear q2 z3 mz pm lp z2 z1; omega))))
  · exact h.dn i j z1 z2 (by (clear z2 z1 mz pm lp; omega))
theorem Blk.new {xs : Array Keyed} {lo m : Nat} (oo : Od c0 c ix) (lm : lo < m) (mz : m < xs.size) (dn : Dn c xs lo m) (lc : Loc ix xs lo m) (raw : Raw ix xs m) (g : c0 (ats xs m) (ats xs (m - 1)) = true) : Blk c0 c ix xs lo m (m + 1) :=
  ⟨by (clear mz; omega), by (clear mz lm; omega), mz, dn, lc, fun i j z1 z2 z3 z4 => by
    obtain rfl : j = m := by (clear z2 z1 mz lm; omega)
    exact oo.o0.le g (oo.of0 (dn i (j - 1) z1 (by (clear z4 z3 mz lm z1; omega)) (by (clear z4 z3 z2 mz z1; omega)))), fun i j z1 z2 z3 z4 => by
    obtain rfl : i = j := by (clear mz lm; omega)
    exact oo.o0.rf _, raw⟩
theorem count_ok (H : Cmp M A κ a0 c0 G) (oo : Od c0 c ix) {st : SortSt} {s : Shared} {lo nrem : Nat} {Q : Option Nat → SortSt → Shared → Prop} (hn : lo + nrem ≤ a0.size) (h1 : 1 ≤ nrem) (b : SB κ a0 st) (hr : Raw ix (arrOf st) lo) (g : G s)
    (h : ∀ n st' s', 1 ≤ n → n ≤ nrem → SB κ a0 st' → pendingOf st' = pendingOf st → Up c (arrOf st') lo (lo + n) → Loc ix (arrOf st') lo (lo + n) → Raw ix (arrOf st') (lo + n) → Keep (arrOf st) (arrOf st') lo → G s' → Q (some n) st' s') : kasC M A E (countRun' lo nrem) Q st s := by
  have o := oo.o
  have hsz := b.sz
  rw [countRun'_eq]
  refine kasC_bind (asc_ok (lo := lo) o (Nat.le_refl 1) h1 g (fun i j z1 z2 z3 => ?_) (fun x m s g y1 y2 => by
      refine kasC_bind (lts_ok H b (by (clear y1 hsz h1; omega)) (by (clear y1 hsz h1; omega)) g fun s' g' => ?_)
      dsimp only
      rw [← oo.ag (by
        have z1 := hr (lo + m) (by (clear y2 y1 hsz h1 hn; omega)) (by (clear y1 h1; omega))
        have z2 := hr (lo + m - 1) (by (clear z1 y2 hsz h1 hn; omega)) (by (clear z1 y1 h1; omega))
        (clear y2 hsz h1 hn; omega))]
      split <;> exact kasC_pure ⟨rfl, g', rfl⟩) fun n s1 n1 n2 up dn g1 => ?_)
  · have : i = j := by (clear hsz h1 hn; omega)
    subst this; exact o.rf _
  dsimp only
  have lc : Loc ix (arrOf st) lo (lo + n) := fun j z1 z2 => by have := hr j z1 (by (clear z1 n1 h1; omega)); (clear n2 n1 hsz h1 hn; omega)
  by_cases e : (n == nrem) = true
  · rw [if_pos e]; exact kasC_pure (h n st s1 n1 n2 b rfl up lc (hr.mono (by (clear n2 n1 hsz h1 hn; omega))) (fun _ _ => rfl) g1)
  rw [if_neg e]
  have lt : n < nrem := by
    rcases Nat.lt_or_ge n nrem with z | z
    · exact z
    · exact absurd (by rw [show n = nrem by (clear n1 hsz h1 hn; omega)]; exact beq_self_eq_true _) e
  have dn0 := dn lt
  have dn : c0 (ats (arrOf st) (lo + n)) (ats (arrOf st) (lo + n - 1)) = true := by
    rw [oo.ag (by
        have z1 := hr (lo + n) (by (clear lt n2 n1 hsz h1 hn; omega)) (by (clear n2 n1 h1; omega))
        have z2 := hr (lo + n - 1) (by (clear z1 lt n2 hsz h1 hn; omega)) (by (clear z1 lt n1; omega))
        (clear lt n2 hsz h1 hn; omega))] at dn0
    exact dn0
  refine' (fun (key : ∀ (st' : SortSt) (s' : Shared), SB κ a0 st' → pendingOf st' = pendingOf st → Keep (arrOf st) (arrOf st') lo → Blk c0 c ix (arrOf st') lo (lo + n) (lo + n + 1) → G s' → kasC M A E (_ : StateT SortSt Sem (Option Nat)) Q st' s') => ?rest) ?key
  case rest =>
    by_cases e2 : n > 1
    · rw [if_pos e2]
      refine kasC_bind (lts_ok H b (by (clear e2; omega)) (by (clear e2; omega)) g1 fun s2 g2 => ?_)
      dsimp only
      cases ro : c0 (ats (arrOf st) lo) (ats (arrOf st) (lo + n - 1)) with
      | true => rw [if_pos rfl]; exact kasC_pure (h n st s2 n1 n2 b rfl up lc (hr.mono (by (clear e2; omega))) (fun _ _ => rfl) g2)
      | false =>
        rw [if_neg (by simp), reverseSlice'_eq]
        refine kasC_bind (kasC_modify ?_)
        have hz0 : lo + n ≤ (arrOf st).size := by rw [b.sz]; (clear e2; omega)
        have up0 : ∀ i j, lo ≤ i → i ≤ j → j < lo + n → c0 (ats (arrOf st) j) (ats (arrOf st) i) = false := fun i j z1 z2 z3 => oo.of0 (up i j z1 z2 z3)
        have all : ∀ i j, lo ≤ i → i < lo + n → lo ≤ j → j < lo + n → c0 (ats (arrOf st) i) (ats (arrOf st) j) = false := fun i j z1 z2 z3 z4 =>
          oo.o0.tr (oo.o0.tr (up0 j (lo + n - 1) (by (clear z4 z2 z1 hz0 e2; omega)) (by (clear z3 z2 z1 hz0 e2; omega)) (by (clear z4 z3 z2 z1 hz0 e2; omega))) ro) (up0 lo i (by (clear z4 z3 z2 z1 hz0 e2; omega)) (by (clear z4 z3 z2 hz0 e2; omega)) (by (clear z4 z3 z1 hz0 e2; omega)))
        have bb := b.put (mirror_perm (arrOf st) lo (lo + n) ((lo + n - lo) / 2))
        have bl0 : Blk c0 c ix (arrOf st) lo lo (lo + n) := ⟨Nat.le_refl _, by (clear hz0 e2; omega), hz0, fun i j z1 z2 z3 => by (clear hz0 e2; omega), fun j z1 z2 => by (clear hz0 e2; omega), fun i j z1 z2 => by (clear hz0 e2; omega), fun i j z1 z2 z3 z4 => all i j z1 z2 z3 z4, hr⟩
        obtain ⟨t1, t2, t3⟩ := bl0.turn oo
        have bl1 : Blk c0 c ix (mirror (arrOf st) lo (lo + n) ((lo + n - lo) / 2)) lo (lo + n) (lo + n + 1) := Blk.new oo (by (clear hz0 e2; omega)) (by rw [mirror_size]; (clear hz0 e2; omega)) t1 t2 t3 (by
          rw [ats_rev hz0, ats_rev hz0, if_neg (by (clear hz0 e2; omega)), if_pos (by (clear hz0 e2; omega))]
          exact oo.o0.le dn (all _ _ (by (clear hz0 e2; omega)) (by (clear hz0 e2; omega)) (by (clear hz0 e2; omega)) (by (clear hz0 e2; omega))))
        exact key _ _ bb rfl (rev_keep hz0 (Nat.le_refl _)) bl1 g2
    · rw [if_neg e2]
      have bl1 : Blk c0 c ix (arrOf st) lo (lo + n) (lo + n + 1) := Blk.new oo (by (clear e2 lt n2 hsz h1 hn; omega)) (by (clear e2 n2 n1 h1; omega)) (fun i j z1 z2 z3 => by
        have : i = j := by (clear lt n2 n1 hsz h1 hn; omega)
        subst this; exact o.rf _) lc (hr.mono (by (clear e2 lt n2 n1 hsz h1 hn; omega))) dn
      exact key _ _ b rfl (fun _ _ => rfl) bl1 g1
  intro st0 s0 b0 p0 kp0 bl0 g0
  refine kasC_bind (kasC_lift (wpAny_rule ?_))
  refine kasC_bind (kasC_mono (Q := fun d st' s' => ∃ m q, d = (none, m, q) ∧ n + 1 ≤ m ∧ m ≤ nrem ∧ q < m ∧ SB κ a0 st' ∧ pendingOf st' = pendingOf st ∧ Keep (arrOf st) (arrOf st') lo ∧ Blk c0 c ix (arrOf st') lo (lo + m - (q + 1)) (lo + m) ∧ G s')
    (kasC_rg (fun k d st' s' => ∃ q, d = (none, k, q) ∧ k ≤ nrem ∧ q < k ∧ SB κ a0 st' ∧ pendingOf st' = pendingOf st ∧ Keep (arrOf st) (arrOf st') lo ∧ Blk c0 c ix (arrOf st') lo (lo + k - (q + 1)) (lo + k) ∧ G s') ?_ ?_ ?_) ?_)
  · rintro k _ st' s' k1 k2 ⟨q, rfl, _, q2, b', p', kp', bl, g'⟩
    dsimp only
    refine kasC_bind (lts_ok H b' (by (clear q2 k1 lt n2 n1 hsz h1; omega)) (by (clear q2 k2 k1 lt n2 n1 hsz; omega)) g' fun s3 g3 => ?_)
    dsimp only
    have hz0 := b'.sz
    cases sm : c0 (ats (arrOf st') (lo + k)) (ats (arrOf st') (lo + k - 1)) with
    | true =>
      rw [if_pos rfl]
      by_cases hq : q > 0
      · rw [if_pos hq, reverseSlice'_eq]
        refine kasC_bind (kasC_modify (kasC_pure ?_))
        have hz : lo + k ≤ (arrOf st').size := by (clear hq q2 k2 k1 lt n2 n1 hsz h1; omega)
        obtain ⟨t1, t2, t3⟩ := bl.turn oo
        refine ⟨0, rfl, by (clear hz hq hz0 q2 k1 lt n2 n1 hsz h1 hn; omega), by (clear hz hq hz0 q2 k2 k1 lt n2 n1 hsz h1 hn; omega), b'.put (mirror_perm _ _ _ _), p', kp'.trans (rev_keep hz (by (clear hz hq hz0 k2 k1 lt n2 n1 hsz h1 hn; omega))), ?_, g3⟩
        refine Blk.new oo (by (clear hz hq hz0 q2 k2 lt n2 n1 hsz h1 hn; omega)) (by show _ < (mirror _ _ _ _).size; rw [mirror_size]; (clear hz hq q2 k1 lt n2 n1 hsz h1; omega)) t1 t2 t3 ?_
        show c0 (ats (mirror _ _ _ _) _) (ats (mirror _ _ _ _) _) = true
        rw [ats_rev hz, ats_rev hz, if_neg (by (clear hz hq hz0 q2 k2 k1 lt n2 n1 hsz h1 hn; omega)), if_pos (by (clear hz hq hz0 q2 k2 lt n2 n1 hsz h1 hn; omega))]
        exact oo.o0.le sm (bl.eq _ _ (by (clear hz hq hz0 q2 k2 k1 lt n2 n1 hsz h1 hn; omega)) (by (clear hz hq hz0 q2 k2 lt n2 n1 hsz h1 hn; omega)) (by (clear hz hq hz0 q2 k2 k1 lt n2 n1 hsz h1 hn; omega)) (by (clear hz hq hz0 q2 k2 lt n2 n1 hsz h1 hn; omega)))
      · rw [if_neg hq]
        obtain ⟨t1, t2, t3⟩ := bl.one oo (by (clear hz0 q2 k2 lt n2 n1 hsz h1 hn; omega))
        exact kasC_pure ⟨0, rfl, by (clear hq hz0 q2 k1 lt n2 n1 hsz h1 hn; omega), by (clear hq hz0 q2 k2 k1 lt n2 n1 hsz h1 hn; omega), b', p', kp', Blk.new oo (by (clear hq hz0 q2 k2 lt n2 n1 hsz h1 hn; omega)) (by (clear hq q2 k1 lt n2 n1 hsz h1; omega)) t1 t2 t3 sm, g3⟩
    | false =>
      rw [if_neg (by simp)]
      refine kasC_bind (lts_ok H b' (by (clear hz0 q2 k2 k1 lt n2 n1 hsz; omega)) (by (clear hz0 q2 k1 lt n2 n1 hsz h1; omega)) g3 fun s4 g4 => ?_)
      dsimp only
      cases la : c0 (ats (arrOf st') (lo + k - 1)) (ats (arrOf st') (lo + k)) with
      | true =>
        rw [if_pos rfl]
        exact kasC_pure ⟨k, q, rfl, k1, by (clear hz0 q2 k2 k1 lt n2 n1 hsz h1 hn; omega), q2, b', p', kp', bl, g4⟩
      | false =>
        rw [if_neg (by simp)]
        refine kasC_pure ⟨q + 1, rfl, by (clear hz0 q2 k1 lt n2 n1 hsz h1 hn; omega), by (clear hz0 k2 k1 lt n2 n1 hsz h1 hn; omega), b', p', kp', ?_, g4⟩
        have ep : lo + (k + 1) - (q + 1 + 1) = lo + k - (q + 1) := by (clear hz0 q2 k2 k1 lt n2 n1 hsz h1 hn; omega)
        rw [ep]
        have o0 := oo.o0
        refine ⟨bl.lp, by (clear ep hz0 q2 k2 k1 lt n2 n1 hsz h1 hn; omega), by (clear ep q2 k1 lt n2 n1 hsz h1; omega), bl.dn, bl.lc, fun i j z1 z2 z3 z4 => ?_, fun i j z1 z2 z3 z4 => ?_, bl.raw⟩
        · by_cases e1 : j = lo + k
          · subst e1
            cases e2 : c0 (ats (arrOf st') (lo + k)) (ats (arrOf st') i) with
            | true => rfl
            | false =>
              have := o0.tr e2 la
              rw [bl.gt i (lo + k - 1) z1 z2 (by (clear z4 z3 z2 z1 ep hz0 q2 k2 k1 lt n2 n1 hsz h1 hn; omega)) (by (clear z4 z3 z2 z1 ep hz0 q2 k2 lt n2 n1 hsz h1 hn; omega))] at this; exact this.symm
          · exact bl.gt i j z1 z2 z3 (by (clear z3 z2 z1 ep hz0 q2 k2 k1 lt n2 n1 hsz h1 hn; omega))
        · by_cases e1 : i = lo + k
          · by_cases e2 : j = lo + k
            · subst e1; subst e2; exact o0.rf _
            · subst e1
              exact o0.tr (bl.eq (lo + k - 1) j (by (clear z2 z1 e2 z4 z3 ep hz0 q2 k2 k1 lt n2 n1 hsz h1 hn; omega)) (by (clear z2 z1 e2 z4 z3 ep hz0 q2 k2 lt n2 n1 hsz h1 hn; omega)) (by (clear z2 z1 e2 z4 ep hz0 q2 k2 k1 lt n2 n1 hsz h1 hn; omega)) (by (clear z2 z1 z3 ep hz0 q2 k2 k1 lt n2 n1 hsz h1 hn; omega))) sm
          · by_cases e2 : j = lo + k
            · subst e2
              exact o0.tr la (bl.eq i (lo + k - 1) (by (clear z4 z3 e1 z2 ep hz0 q2 k2 k1 lt n2 n1 hsz h1 hn; omega)) (by (clear z4 z3 z1 ep hz0 q2 k2 k1 lt n2 n1 hsz h1 hn; omega)) (by (clear z4 z3 e1 z2 z1 ep hz0 q2 k2 k1 lt n2 n1 hsz h1 hn; omega)) (by (clear z4 z3 e1 z2 z1 ep hz0 q2 k2 lt n2 n1 hsz h1 hn; omega)))
            · exact bl.eq i j (by (clear e2 e1 z4 z3 z2 ep hz0 q2 k2 k1 lt n2 n1 hsz h1 hn; omega)) (by (clear e2 z4 z3 z1 ep hz0 q2 k2 k1 lt n2 n1 hsz h1 hn; omega)) (by (clear e2 e1 z4 z2 z1 ep hz0 q2 k2 k1 lt n2 n1 hsz h1 hn; omega)) (by (clear e1 z3 z2 z1 ep hz0 q2 k2 k1 lt n2 n1 hsz h1 hn; omega))
  · rintro _ st' s' ⟨q, rfl, q1, q2, b', p', kp', bl, g'⟩
    rw [show max (n + 1) nrem = nrem by omega] at *
    exact ⟨nrem, q, rfl, by (clear q2 q1 n2 n1 hsz h1 hn; omega), by (clear q2 q1 lt n2 n1 hsz h1 hn; omega), q2, b', p', kp', bl, g'⟩
  · refine ⟨0, rfl, by (clear n2 n1 hsz h1 hn; omega), by (clear lt n2 n1 hsz h1 hn; omega), b0, p0, kp0, bl0, g0⟩
  · rintro _ st' s' ⟨m, q, rfl, m1, m2, q2, b', p', kp', bl, g'⟩
    dsimp only
    refine' (fun (key : ∀ (st2 : SortSt), SB κ a0 st2 → pendingOf st2 = pendingOf st → Keep (arrOf st) (arrOf st2) lo → Dn c (arrOf st2) lo (lo + m) → Loc ix (arrOf st2) lo (lo + m) → Raw ix (arrOf st2) (lo + m) → kasC M A E (_ : StateT SortSt Sem (Option Nat)) Q st2 s') => ?rest2) ?key2
    case rest2 =>
      by_cases hq : q > 0
      · rw [if_pos hq, reverseSlice'_eq]
        refine kasC_bind (kasC_modify ?_)
        have hz0 : lo + m ≤ (arrOf st').size := by rw [b'.sz]; (clear hq; omega)
        have b3 := b'.put (mirror_perm (arrOf st') (lo + m - (q + 1)) (lo + m) ((lo + m - (lo + m - (q + 1))) / 2))
        have kp3 := kp'.trans (rev_keep (lo := lo + m - (q + 1)) hz0 (show lo ≤ _ by (clear hz0 hq; omega)))
        obtain ⟨t1, t2, t3⟩ := bl.turn oo
        exact key _ b3 p' kp3 t1 t2 t3
      · rw [if_neg hq]
        obtain ⟨t1, t2, t3⟩ := bl.one oo (by (clear q2 m2 lt n2 n1 hsz h1 hn; omega))
        exact key _ b' p' kp' t1 t2 t3
    intro st2 bt pt kt t1 t2 t3
    rw [reverseSlice'_eq]
    refine kasC_bind (kasC_modify ?_)
    have b2 := bt.put (mirror_perm _ lo (lo + m) ((lo + m - lo) / 2))
    have hz : lo + m ≤ (arrOf _).size := Nat.le_trans (show lo + m ≤ a0.size by (clear q2 m1 lt n2 n1 hsz h1; omega)) (Nat.le_of_eq bt.sz.symm)
    have rv := ats_rev (i := lo) hz
    have l2 : Loc ix (mirror _ lo (lo + m) ((lo + m - lo) / 2)) lo (lo + m) := fun j z1 z2 => by
      rw [rv, if_pos (by (clear hz q2 m2 m1 lt n2 n1 hsz h1 hn; omega))]; exact t2 _ (by (clear z1 hz q2 m2 m1 lt n2 n1 hsz h1 hn; omega)) (by (clear z2 hz q2 m2 lt n2 n1 hsz h1 hn; omega))
    have r2 : Raw ix (mirror _ lo (lo + m) ((lo + m - lo) / 2)) (lo + m) := fun j z1 z2 => by
      rw [mirror_size] at z2
      rw [rv, if_neg (by (clear z2 hz q2 m2 m1 lt n2 n1 hsz h1 hn; omega))]; exact t3 j z1 z2
    have sz2 := b2.sz
    refine kasC_bind (asc_ok (lo := lo) o (by (clear sz2 hz q2 m2 lt n2 n1 hsz h1 hn; omega)) m2 g' (rev_up hz t1) (fun x m' s g y1 y2 => by
        refine kasC_bind (lts_ok H b2 (by (clear y1 sz2 hz q2 m2 m1 lt n2 n1 hsz h1; omega)) (by (clear y1 sz2 hz q2 m2 m1 lt n2 n1 hsz h1; omega)) g fun s' g' => ?_)
        dsimp only
        rw [← ag_at oo l2 r2 y1 (by (clear y2 sz2 hz q2 m2 lt n2 n1 hsz h1 hn; omega)) (Nat.lt_of_lt_of_le (show lo + m' < a0.size by (clear y1 sz2 hz q2 m2 m1 lt n2 n1 hsz h1; omega)) (Nat.le_of_eq sz2.symm))]
        split <;> exact kasC_pure ⟨rfl, g', rfl⟩) fun m' s2 y1 y2 y3 _ g2 => ?_)
    exact kasC_pure (h m' _ s2 (by (clear y2 sz2 hz q2 m2 lt n2 n1 hsz h1 hn; omega)) y2 b2 pt y3 (l2.more r2 (by (clear y2 y1 sz2 hz q2 m2 m1 lt n2 n1 hsz h1 hn; omega)) (by (clear y2 sz2 hz q2 m2 m1 lt n2 n1 hsz h1 hn; omega)) (Nat.le_trans (show lo + m' ≤ a0.size by (clear y1 sz2 hz q2 m2 m1 lt n2 n1 hsz h1; omega)) (Nat.le_of_eq sz2.symm))) (r2.mono (by (clear y2 sz2 hz q2 m2 m1 lt n2 n1 hsz h1 hn; omega))) (Keep.trans kt (rev_keep hz (Nat.le_refl _))) g2)
end
end TSrt
set_option Elab.async false
set_option linter.all false
set_option maxRecDepth 100000
namespace TSrt
open PySem PySem.W PyProof.Rows
section pure
variable {c : Keyed → Keyed → Bool}
noncomputable def Asc (c : Keyed → Keyed → Bool) (l : List Keyed) : Prop := l.Pairwise fun x y => c y x = false
theorem Asc.app {l m : List Keyed} (h1 : Asc c l) (h2 : Asc c m) (h : ∀ x ∈ l, ∀ y ∈ m, c y x = false) : Asc c (l ++ m) := List.pairwise_append.mpr ⟨h1, h2, h⟩
theorem Asc.split {l : List Keyed} (h : Asc c l) (k : Nat) : Asc c (l.take k) ∧ Asc c (l.drop k) ∧ ∀ x ∈ l.take k, ∀ y ∈ l.drop k, c y x = false := by
  have h' := h
  rw [← List.take_append_drop k l] at h'
  exact List.pairwise_append.mp h'
theorem ats_ge {xs : Array Keyed} {i : Nat} : ats xs i = (xs.toList[i]?).getD (.none, .none) := by unfold ats; rw [Array.getElem?_toList]
theorem Asc.at {xs : Array Keyed} (h : Asc c xs.toList) (o : Sw c) {i j : Nat} (hij : i ≤ j) (hj : j < xs.size) : c (ats xs j) (ats xs i) = false := by
  by_cases e : i = j
  · subst e; exact o.rf _
  · have hj' : j < xs.toList.length := by simpa using hj
    have hi' : i < xs.toList.length := by omega
    have := List.pairwise_iff_getElem.mp h i j hi' hj' (by omega)
    rw [ats_ge, ats_ge, List.getElem?_eq_getElem hj', List.getElem?_eq_getElem hi']
    exact this
theorem dropped {xs : Array Keyed} {i : Nat} (h : i < xs.size) : xs.toList.drop i = ats xs i :: xs.toList.drop (i + 1) := by
  have h' : i < xs.toList.length := by simpa using h
  rw [List.drop_eq_getElem_cons h', ats_ge, List.getElem?_eq_getElem h']; rfl
theorem mem_seg {xs : Array Keyed} {i k : Nat} {y : Keyed} (h : y ∈ (xs.toList.drop i).take k) : ∃ t, t < k ∧ i + t < xs.size ∧ y = ats xs (i + t) := by
  obtain ⟨t, ht, rfl⟩ := List.mem_iff_getElem.mp h
  have e := ht
  rw [List.length_take, List.length_drop] at e
  have e2 : i + t < xs.size := by rw [Array.length_toList] at e; omega
  refine ⟨t, by omega, e2, ?_⟩
  rw [List.getElem_take, List.getElem_drop, ats_ge, List.getElem?_eq_getElem]; rfl
structure ML (c : Keyed → Keyed → Bool) (a b : Array Keyed) (out : Array Keyed) (ia ib : Nat) : Prop where
  so : Asc c out.toList
  pm : out.toList.Perm (a.toList.take ia ++ b.toList.take ib)
  oa : ∀ x ∈ out.toList, ∀ y ∈ a.toList.drop ia, c y x = false
  ob : ∀ x ∈ out.toList, ∀ y ∈ b.toList.drop ib, c y x = false
theorem ML.swap {a b out : Array Keyed} {ia ib : Nat} (h : ML c a b out ia ib) : ML c b a out ib ia := ⟨h.so, h.pm.trans List.perm_append_comm, h.ob, h.oa⟩
theorem ML.size {a b out : Array Keyed} {ia ib : Nat} (h : ML c a b out ia ib) (ha : ia ≤ a.size) (hb : ib ≤ b.size) : out.size = ia + ib := by
  have := h.pm.length_eq
  simp only [List.length_append, List.length_take, Array.length_toList] at this
  omega
theorem ML.add {a b out : Array Keyed} {ia ib k : Nat} (o : Sw c) (sa : Asc c a.toList) (sb : Asc c b.toList) (h : ML c a b out ia ib) (hb : ib < b.size) (q : ∀ t, t < k → ia + t < a.size → c (ats b ib) (ats a (ia + t)) = false) :
    ML c a b (out ++ a.extract ia (ia + k)) (ia + k) ib := by
  have e : (out ++ a.extract ia (ia + k)).toList = out.toList ++ (a.toList.drop ia).take k := by
    rw [Array.toList_append, Array.toList_extract, List.extract_eq_drop_take]
    congr 2; omega
  have hd : a.toList.drop (ia + k) = (a.toList.drop ia).drop k := by rw [List.drop_drop]
  obtain ⟨-, sd, -⟩ := sa.split ia
  obtain ⟨s1, -, s2⟩ := Asc.split sd k
  constructor
  · rw [e]; exact h.so.app s1 fun x hx y hy => h.oa x hx y (List.mem_of_mem_take hy)
  · rw [e, List.take_add]
    refine (h.pm.append_right _).trans ?_
    rw [List.append_assoc, List.append_assoc]
    exact List.Perm.append_left _ List.perm_append_comm
  · rw [e, hd]
    intro x hx y hy
    rcases List.mem_append.mp hx with hx | hx
    · exact h.oa x hx y (List.mem_of_mem_drop hy)
    · exact s2 x hx y hy
  · rw [e]
    intro x hx y hy
    rcases List.mem_append.mp hx with hx | hx
    · exact h.ob x hx y hy
    · obtain ⟨t, t1, t2, rfl⟩ := mem_seg hx
      have z := q t t1 t2
      rw [dropped hb] at hy
      rcases List.mem_cons.mp hy with rfl | hy
      · exact z
      · obtain ⟨-, s4, -⟩ := sb.split ib
        rw [dropped hb] at s4
        exact o.tr z ((List.pairwise_cons.mp s4).1 y hy)
theorem ML.push {a b out : Array Keyed} {ia ib : Nat} (o : Sw c) (sa : Asc c a.toList) (sb : Asc c b.toList) (h : ML c a b out ia ib) (ha : ia < a.size) (hb : ib < b.size) (q : c (ats b ib) (ats a ia) = false) :
    ML c a b (out.push (ats a ia)) (ia + 1) ib := by
  have := h.add (k := 1) o sa sb hb fun t t1 t2 => by
    obtain rfl : t = 0 := by omega
    exact q
  have e : out ++ a.extract ia (ia + 1) = out.push (ats a ia) := by
    apply Array.toList_inj.mp
    rw [Array.toList_append, Array.toList_extract, List.extract_eq_drop_take, Array.toList_push, dropped ha]
    rw [show ia + 1 - ia = 1 by omega]; rfl
  rwa [e] at this
noncomputable def Merged (c : Keyed → Keyed → Bool) (a b r : Array Keyed) : Prop := Asc c r.toList ∧ r.toList.Perm (a.toList ++ b.toList)
theorem Merged.swap {a b r : Array Keyed} (h : Merged c a b r) : Merged c b a r := ⟨h.1, h.2.trans List.perm_append_comm⟩
theorem ML.fin {a b out : Array Keyed} {ia ib : Nat} (sa : Asc c a.toList) (sb : Asc c b.toList) (h : ML c a b out ia ib) (q : ∀ x ∈ a.toList.drop ia, ∀ y ∈ b.toList.drop ib, c y x = false) : Merged c a b (out ++ a.extract ia a.size ++ b.extract ib b.size) := by
  have e : (out ++ a.extract ia a.size ++ b.extract ib b.size).toList = out.toList ++ a.toList.drop ia ++ b.toList.drop ib := by
    rw [Array.toList_append, Array.toList_append, Array.toList_extract, Array.toList_extract, List.extract_eq_drop_take, List.extract_eq_drop_take, List.take_of_length_le (by simp), List.take_of_length_le (by simp)]
  refine ⟨?_, ?_⟩
  · rw [e]
    refine (h.so.app (sa.split ia).2.1 h.oa).app (sb.split ib).2.1 fun x hx y hy => ?_
    rcases List.mem_append.mp hx with hx | hx
    · exact h.ob x hx y hy
    · exact q x hx y hy
  · rw [e]
    have p1 := (h.pm.append_right (a.toList.drop ia ++ b.toList.drop ib))
    rw [← List.append_assoc] at p1
    refine p1.trans ?_
    conv => rhs; rw [← List.take_append_drop ia a.toList, ← List.take_append_drop ib b.toList]
    rw [List.append_assoc, List.append_assoc]
    refine List.Perm.append_left _ ?_
    rw [← List.append_assoc, ← List.append_assoc]
    exact List.perm_append_comm.append_right _
theorem ML.fin_a {a b out : Array Keyed} {ia ib : Nat} (sa : Asc c a.toList) (sb : Asc c b.toList) (h : ML c a b out ia ib) (e : ia = a.size) : Merged c a b (out ++ a.extract ia a.size ++ b.extract ib b.size) := h.fin sa sb fun x hx => by
  rw [e, List.drop_of_length_le (by simp)] at hx; simp at hx
theorem ML.fin_b {a b out : Array Keyed} {ia ib : Nat} (sa : Asc c a.toList) (sb : Asc c b.toList) (h : ML c a b out ia ib) (e : ib = b.size) : Merged c a b (out ++ a.extract ia a.size ++ b.extract ib b.size) := h.fin sa sb fun x _ y hy => by
  rw [e, List.drop_of_length_le (by simp)] at hy; simp at hy
theorem ML.fin_l {a b out : Array Keyed} {ia ib : Nat} (o : Sw c) (sa : Asc c a.toList) (sb : Asc c b.toList) (h : ML c a b out ia ib) (e : ia + 1 = a.size) (hb : 0 < b.size) (q : c (ats b (b.size - 1)) (ats a (a.size - 1)) = true) : Merged c a b (out ++ b.extract ib b.size ++ a.extract ia a.size) :=
  (h.swap.fin sb sa fun x hx y hy => by
    rw [dropped (by omega), List.drop_of_length_le (by simp; omega)] at hy
    obtain rfl := List.mem_singleton.mp hy
    have hm := List.mem_of_mem_drop hx
    rw [← List.drop_zero (l := b.toList), ← List.take_of_length_le (l := b.toList.drop 0) (i := b.size) (by simp)] at hm
    obtain ⟨t, t1, t2, rfl⟩ := mem_seg hm
    rw [Nat.zero_add]
    rw [show ia = a.size - 1 by omega]
    exact o.tr (sb.at o (show t ≤ b.size - 1 by omega) (by omega)) (o.asym q)).swap
end pure
end TSrt
set_option Elab.async false
set_option linter.all false
set_option maxRecDepth 100000
namespace TSrt
open PySem PySem.W PyProof.Rows
noncomputable def mergeLo' : Array Keyed → Array Keyed → StateT SortSt Sem (Array Keyed) := sortPriv% PySem.Builtin.mergeLo
noncomputable def mergeHi' : Array Keyed → Array Keyed → StateT SortSt Sem (Array Keyed) := sortPriv% PySem.Builtin.mergeHi
structure Gs (st st' : SortSt) : Prop where
  kd : kindOf st' = kindOf st
  ar : arrOf st' = arrOf st
  pe : pendingOf st' = pendingOf st
  fd : failedOf st' = failedOf st
theorem Gs.rf (st : SortSt) : Gs st st := ⟨rfl, rfl, rfl, rfl⟩
theorem Up.of {c : Keyed → Keyed → Bool} {xs : Array Keyed} (o : Sw c) (h : Asc c xs.toList) {lo hi : Nat} (hz : hi ≤ xs.size) : Up c xs lo hi := fun i j _ h2 h3 => h.at o h2 (by (clear h2; omega))
section
variable {M : Model} {A : Around} {E : Value → Shared → Prop} {κ : SortKind} {a0 : Array Keyed} {c0 c : Keyed → Keyed → Bool} {ix : Keyed → Nat} {G : Shared → Prop}
theorem kasC_two {α : Type} {f : Nat → StateT SortSt Sem α} {p : Nat → Prop} {d : ∀ z, Decidable (p z)} {g : Nat → Nat} {Q : α → SortSt → Shared → Prop} {st : SortSt} {s : Shared} (h : ∀ z, kasC M A E (f z) Q st s) : ∀ z, kasC M A E (@ite _ (p z) (d z) (f z) (f (g z))) Q st s := by
  intro z; split <;> exact h _
theorem kasC_jp {α β : Type} {f : β → Nat → StateT SortSt Sem α} {p : Prop} {d : Decidable p} {t : β → Nat → StateT SortSt Sem α} {O : β} {I : Nat} {Q : α → SortSt → Shared → Prop} {st : SortSt} {s : Shared} (P : β → Nat → Prop) (h1 : p → P O I)
    (h2 : ¬ p → (∀ o i, P o i → kasC M A E (f o i) Q st s) → kasC M A E (t O I) Q st s) (h : ∀ o i, P o i → kasC M A E (f o i) Q st s) : ∀ o, O = o → ∀ i, I = i → kasC M A E (@ite _ p d (f o i) (t o i)) Q st s := by
  rintro _ rfl _ rfl
  split
  · rename_i z; exact h _ _ (h1 z)
  · rename_i z; exact h2 z h
theorem galR (H : Cmp M A κ a0 c0 G) (oo : Od c0 c ix) {arr : Array Keyed} {key : Keyed} {base n hint : Nat} {st : SortSt} {s : Shared} {Q : Option Nat → SortSt → Shared → Prop} (hx : ∀ i, i < n → ix (ats arr (base + i)) < ix key) (up : Up c arr base (base + n)) (mem : ∀ x ∈ arr.toList, x ∈ a0.toList) (hk : key ∈ a0.toList) (hz : base + n ≤ arr.size) (hh : hint < n) (kd : kindOf st = κ) (g : G s)
    (q : ∀ k s', k ≤ n → (∀ i, i < k → c key (ats arr (base + i)) = false) → (k < n → c key (ats arr (base + k)) = true) → G s' → Q (some k) st s') : kasC M A E (gallop' false key arr base n hint) Q st s := by
  have o := oo.o
  refine gallop_ok (G := G) (B := fun i => !(c key (ats arr (base + i)))) (fun i hi s g => ?_) (fun i j hij hj e => ?_) hh g fun k s' ed g' => q k s' ed.le (fun i hi => ?_) (fun hk => ?_) g'
  · unfold beyond
    refine kasC_bind (el_ok (by (clear hh; omega)) ?_)
    rw [if_neg (by simp)]
    refine kasC_bind (lt_ag H oo (hx i hi) kd hk (mem _ (ats_mem (by (clear hh; omega)))) g fun s' g' => ?_)
    exact kasC_pure ⟨rfl, rfl, g'⟩
  · simp only [Bool.not_eq_true'] at e ⊢
    exact o.tr (up _ _ (by (clear hj hij hh hz; omega)) (by (clear hj hh hz; omega)) (by (clear hij hh hz; omega))) e
  · simpa using ed.lo i hi
  · simpa using ed.hi hk
theorem galL (H : Cmp M A κ a0 c0 G) (oo : Od c0 c ix) {arr : Array Keyed} {key : Keyed} {base n hint : Nat} {st : SortSt} {s : Shared} {Q : Option Nat → SortSt → Shared → Prop} (hx : ∀ i, i < n → ix key < ix (ats arr (base + i))) (up : Up c arr base (base + n)) (mem : ∀ x ∈ arr.toList, x ∈ a0.toList) (hk : key ∈ a0.toList) (hz : base + n ≤ arr.size) (hh : hint < n) (kd : kindOf st = κ) (g : G s)
    (q : ∀ k s', k ≤ n → (∀ i, i < k → c (ats arr (base + i)) key = true) → (k < n → c (ats arr (base + k)) key = false) → G s' → Q (some k) st s') : kasC M A E (gallop' true key arr base n hint) Q st s := by
  have o := oo.o
  refine gallop_ok (G := G) (B := fun i => c (ats arr (base + i)) key) (fun i hi s g => ?_) (fun i j hij hj e => ?_) hh g fun k s' ed g' => q k s' ed.le ed.lo ed.hi g'
  · unfold beyond
    refine kasC_bind (el_ok (by (clear hh; omega)) ?_)
    rw [if_pos rfl]
    exact lt_ag H oo (hx i hi) kd (mem _ (ats_mem (by (clear hh; omega)))) hk g fun s' g' => ⟨rfl, rfl, g'⟩
  · cases z : c (ats arr (base + i)) key with
    | true => rfl
    | false =>
      have z2 := up (base + i) (base + j) (by (clear hj hij hh hz; omega)) (by (clear hj hh hz; omega)) (by (clear hij hh hz; omega))
      exact absurd e (by rw [o.tr z z2]; simp)
theorem lo_ok (H : Cmp M A κ a0 c0 G) (oo : Od c0 c ix) {a b : Array Keyed} {st : SortSt} {s : Shared} {Q : Array Keyed → SortSt → Shared → Prop} (sa : Asc c a.toList) (sb : Asc c b.toList) (ma : ∀ x ∈ a.toList, x ∈ a0.toList) (mb : ∀ x ∈ b.toList, x ∈ a0.toList)
    (hx : ∀ x ∈ a.toList, ∀ y ∈ b.toList, ix x < ix y) (ha : 0 < a.size) (hb : 0 < b.size) (f1 : c (ats b 0) (ats a 0) = true) (f2 : c (ats b (b.size - 1)) (ats a (a.size - 1)) = true) (kd : kindOf st = κ) (g : G s)
    (q : ∀ r st' s', Merged c a b r → Gs st st' → G s' → Q r st' s') : kasC M A E (mergeLo' a b) Q st s := by
  have o := oo.o
  unfold mergeLo'
  refine kasC_bind (kasC_lift (wpAny_rule ?_))
  refine kasC_bind (el_ok hb ?_)
  have ml0 : ML c a b #[ats b 0] 0 1 := by
    have := (ML.push (out := #[]) (a := b) (b := a) (ia := 0) (ib := 0) o sb sa ⟨List.Pairwise.nil, List.Perm.refl _, fun x hx => by simp at hx, fun x hx => by simp at hx⟩ hb ha (o.asym f1)).swap
    exact this
  dsimp only
  by_cases e1 : (1 == b.size) = true
  · rw [if_pos e1]; exact kasC_pure (q _ st s (ml0.fin_b sa sb (by simpa using e1)) (Gs.rf _) g)
  rw [if_neg e1]
  by_cases e2 : (0 + 1 == a.size) = true
  · rw [if_pos e2]; exact kasC_pure (q _ st s (ml0.fin_l o sa sb (by simpa using e2) hb f2) (Gs.rf _) g)
  rw [if_neg e2]
  have e1' : 1 < b.size := by simp at e1; (clear ha; omega)
  have e2' : 1 < a.size := by simp at e2; (clear e1' hb; omega)
  refine kasC_bind (kasC_get ?_)
  refine kasC_bind (kasC_mono (Q := fun d st' s' => ∃ r rest, d = (some r, rest) ∧ Merged c a b r ∧ Gs st st' ∧ G s')
    (kasC_rg (fun j d st' s' => ∃ out ia ib mg, d = (none, out, ia, ib, mg) ∧ ML c a b out ia ib ∧ ia + 1 < a.size ∧ ib < b.size ∧ j + 1 ≤ out.size ∧ Gs st st' ∧ G s') ?_ ?_ ?_) ?_)
  · rintro j _ st1 s1 _ hj ⟨out0, ia0, ib0, mg0, rfl, ml1, l1, l2, l3, gs1, g1⟩
    refine kasC_bind (kasC_mono (Q := fun d st' s' => (∃ r rest, d = (some r, rest) ∧ Merged c a b r ∧ Gs st st' ∧ G s') ∨ (∃ out ia ib ac bc, d = (none, out, ia, ib, ac, bc) ∧ ML c a b out ia ib ∧ ia + 1 < a.size ∧ ib < b.size ∧ out0.size + 1 ≤ out.size ∧ Gs st st' ∧ G s'))
      (kasC_rg (fun j d st' s' => ∃ out ia ib ac bc, d = (none, out, ia, ib, ac, bc) ∧ ML c a b out ia ib ∧ ia + 1 < a.size ∧ ib < b.size ∧ out0.size + j ≤ out.size ∧ Gs st st' ∧ G s') ?_ ?_ ?_) ?_)
    · rintro i _ st2 s2 _ hi ⟨out, ia, ib, ac, bc, rfl, ml, m1, m2, m3, gs, g2⟩
      dsimp only
      refine kasC_bind (el_ok m2 ?_)
      refine kasC_bind (el_ok (by (clear m3 m2 hi l3 l2 l1 hj e2' e1' hb ha; omega)) ?_)
      refine kasC_bind (lt_ag H oo (hx _ (ats_mem (by (clear m3 m2 hi l3 l2 l1 hj e2' e1' hb ha; omega))) _ (ats_mem m2)) (gs.kd.trans kd) (mb _ (ats_mem m2)) (ma _ (ats_mem (by (clear m3 m2 hi l3 l2 l1 hj e2' e1' hb ha; omega)))) g2 fun s3 g3 => ?_)
      dsimp only
      cases w : c (ats b ib) (ats a ia) with
      | true =>
        rw [if_pos rfl]
        refine kasC_bind (el_ok m2 ?_)
        have ml' := (ml.swap.push o sb sa m2 (by (clear m3 m2 hi l3 l2 l1 hj e2' e1' hb ha; omega)) (o.asym w)).swap
        have sz := ml'.size (by (clear m3 m2 hi l3 l2 l1 hj e2' e1' hb ha; omega)) (by (clear m3 m1 hi l3 l2 l1 hj e2' e1' hb ha; omega))
        have sz0 := ml.size (by (clear sz m3 m2 hi l3 l2 l1 hj e2' e1' hb ha; omega)) (by (clear sz m3 m1 hi l3 l2 l1 hj e2' e1' hb ha; omega))
        by_cases z : (ib + 1 == b.size) = true
        · rw [if_pos z]
          exact kasC_pure (.inl ⟨_, _, rfl, ml'.fin_b sa sb (by simpa using z), gs, g3⟩)
        · rw [if_neg z]
          have z' : ib + 1 < b.size := by simp at z; (clear sz0 sz m3 m1 hi l3 l2 l1 hj e2' e1' hb ha; omega)
          split
          · exact kasC_pure (.inr ⟨_, _, _, _, _, rfl, ml', m1, z', by (clear z' m2 m1 hi l3 l2 l1 hj e2' e1' hb ha; omega), gs, g3⟩)
          · exact kasC_pure ⟨_, _, _, _, _, rfl, ml', m1, z', by (clear z' m2 m1 hi l3 l2 l1 hj e2' e1' hb ha; omega), gs, g3⟩
      | false =>
        rw [if_neg (by simp)]
        refine kasC_bind (el_ok (by (clear m3 m2 hi l3 l2 l1 hj e2' e1' hb ha; omega)) ?_)
        have ml' := ml.push o sa sb (by (clear m3 m2 hi l3 l2 l1 hj e2' e1' hb ha; omega)) m2 w
        have sz := ml'.size (by (clear m3 m2 hi l3 l2 l1 hj e2' e1' hb ha; omega)) (by (clear m3 m1 hi l3 l2 l1 hj e2' e1' hb ha; omega))
        have sz0 := ml.size (by (clear sz m3 m2 hi l3 l2 l1 hj e2' e1' hb ha; omega)) (by (clear sz m3 m1 hi l3 l2 l1 hj e2' e1' hb ha; omega))
        by_cases z : (ia + 1 + 1 == a.size) = true
        · rw [if_pos z]
          exact kasC_pure (.inl ⟨_, _, rfl, ml'.fin_l o sa sb (by simpa using z) hb f2, gs, g3⟩)
        · rw [if_neg z]
          have z' : ia + 1 + 1 < a.size := by simp at z; (clear sz0 sz m3 m2 hi l3 l2 l1 hj e2' e1' hb ha; omega)
          split
          · exact kasC_pure (.inr ⟨_, _, _, _, _, rfl, ml', z', m2, by (clear z' m2 m1 hi l3 l2 l1 hj e2' e1' hb ha; omega), gs, g3⟩)
          · exact kasC_pure ⟨_, _, _, _, _, rfl, ml', z', m2, by (clear z' m2 m1 hi l3 l2 l1 hj e2' e1' hb ha; omega), gs, g3⟩
    · rintro _ st2 s2 ⟨out, ia, ib, ac, bc, rfl, ml, m1, m2, m3, gs, g2⟩
      exfalso
      have sz0 := ml.size (by (clear m3 m2 l3 l2 l1 hj e2' e1' hb ha; omega)) (by (clear m3 m1 l3 l2 l1 hj e2' e1' hb ha; omega))
      (clear l3 l2 l1 hj e2' e1' hb ha; omega)
    · exact ⟨out0, ia0, ib0, 0, 0, rfl, ml1, l1, l2, by (clear l3 l2 l1 hj e2' e1' hb ha; omega), gs1, g1⟩
    · rintro _ st2 s2 (⟨r, rest, rfl, z1, z2, z3⟩ | ⟨out1, ia1, ib1, ac1, bc1, rfl, ml2, m1, m2, m3, gs2, g2⟩)
      · exact kasC_pure ⟨_, _, rfl, z1, z2, z3⟩
      · dsimp only
        refine kasC_bind (kasC_lift (wpAny_rule ?_))
        refine kasC_bind (kasC_mono (Q := fun d st' s' => (∃ r rest, d = (some r, rest) ∧ Merged c a b r ∧ Gs st st' ∧ G s') ∨ (∃ out ia ib mg ac bc, d = (none, out, ia, ib, mg, ac, bc) ∧ ML c a b out ia ib ∧ ia + 1 < a.size ∧ ib < b.size ∧ out1.size ≤ out.size ∧ Gs st st' ∧ G s'))
          (kasC_rg (fun j d st' s' => ∃ out ia ib mg ac bc, d = (none, out, ia, ib, mg, ac, bc) ∧ ML c a b out ia ib ∧ ia + 1 < a.size ∧ ib < b.size ∧ out1.size + j ≤ out.size ∧ Gs st st' ∧ G s') ?_ ?_ ?_) ?_)
        · rintro i _ st3 s3 _ hi ⟨out, ia, ib, mg, ac, bc, rfl, ml, p1, p2, p3, gs, g3⟩
          have sz0 := ml.size (by (clear p3 p2 hi m3 m2 m1 l3 l2 l1 hj e2' e1' hb ha; omega)) (by (clear p3 p1 hi m3 m2 m1 l3 l2 l1 hj e2' e1' hb ha; omega))
          dsimp only
          rw [← ite_not]
          revert mg
          refine kasC_two ?_
          intro z
          refine kasC_bind (kasC_modify ?_)
          refine kasC_bind (el_ok p2 ?_)
          refine kasC_bind (galR H oo (fun i hi => hx _ (ats_mem (by (clear sz0 p3 p2 p1 m3 m2 m1 l3 l2 l1 hj e2' e1' hb ha; omega))) _ (ats_mem p2)) (Up.of o sa (by (clear sz0 p3 p2 hi m3 m2 m1 l3 l2 l1 hj e2' e1' hb ha; omega))) ma (mb _ (ats_mem p2)) (by (clear sz0 p3 p2 hi m3 m2 m1 l3 l2 l1 hj e2' e1' hb ha; omega)) (by (clear sz0 p3 p2 hi m3 m2 m1 l3 l2 l1 hj e2' e1' hb ha; omega)) (gs.kd.trans kd) g3 fun k s4 k1 k2 k3 g4 => ?_)
          dsimp only
          rw [← ite_not]
          generalize hO : out = o'
          generalize hI : ia = i'
          revert i' o'
          refine kasC_jp (fun ou ja => ML c a b ou ja ib ∧ ja + 1 < a.size ∧ c (ats a ja) (ats b ib) = false ∧ out.size ≤ ou.size) (fun kz => ⟨ml, p1, o.asym ?_, Nat.le_refl _⟩) (fun kz key => ?_) ?_
          · have k0 : k = 0 := by (clear k1 sz0 p3 p2 p1 hi m3 m2 m1 l3 l2 l1 hj e2' e1' hb ha; omega)
            have := k3 (by (clear k0 k1 sz0 p3 p2 hi m3 m2 m1 l3 l2 l1 hj e2' e1' hb ha; omega))
            rwa [k0, Nat.add_zero] at this
          · have mlx := ml.add (k := k) o sa sb p2 fun t t1 t2 => k2 t t1
            have szx := mlx.size (by (clear kz sz0 p3 p2 hi m3 m2 m1 l3 l2 l1 hj e2' e1' hb ha; omega)) (by (clear kz k1 sz0 p3 p1 hi m3 m2 m1 l3 l2 l1 hj e2' e1' hb ha; omega))
            by_cases z : (ia + k + 1 == a.size) = true
            · rw [if_pos z]
              exact kasC_pure (.inl ⟨_, _, rfl, mlx.fin_l o sa sb (by simpa using z) hb f2, ⟨gs.kd, gs.ar, gs.pe, gs.fd⟩, g4⟩)
            rw [if_neg z]
            by_cases z1 : (ia + k == a.size) = true
            · rw [if_pos z1]
              exact kasC_pure (.inl ⟨_, _, rfl, mlx.fin_a sa sb (by simpa using z1), ⟨gs.kd, gs.ar, gs.pe, gs.fd⟩, g4⟩)
            rw [if_neg z1]
            have vx : ia + k + 1 < a.size := by simp at z z1; (clear szx kz sz0 p3 p2 hi m3 m2 m1 l3 l2 l1 hj e2' e1' hb ha; omega)
            exact key _ _ ⟨mlx, vx, o.asym (k3 (by (clear szx kz k1 sz0 p3 p2 p1 hi m3 m2 m1 l3 l2 l1 hj e2' e1' hb ha; omega))), by (clear vx kz k1 p3 p2 p1 hi m3 m2 m1 l3 l2 l1 hj e2' e1' hb ha; omega)⟩
          rintro ou ja ⟨mlx, vx, wx, bx⟩
          have szx := mlx.size (by (clear bx k1 sz0 p3 p2 p1 hi m3 m2 m1 l3 l2 l1 hj e2' e1' hb ha; omega)) (by (clear bx vx k1 sz0 p3 p1 hi m3 m2 m1 l3 l2 l1 hj e2' e1' hb ha; omega))
          refine kasC_bind (el_ok p2 ?_)
          have ml2 := (mlx.swap.push o sb sa p2 (by (clear szx bx k1 sz0 p3 p2 p1 hi m3 m2 m1 l3 l2 l1 hj e2' e1' hb ha; omega)) wx).swap
          have sz2 := ml2.size (by (clear szx bx k1 sz0 p3 p2 p1 hi m3 m2 m1 l3 l2 l1 hj e2' e1' hb ha; omega)) (by (clear szx bx vx k1 sz0 p3 p1 hi m3 m2 m1 l3 l2 l1 hj e2' e1' hb ha; omega))
          by_cases z2 : (ib + 1 == b.size) = true
          · rw [if_pos z2]
            exact kasC_pure (.inl ⟨_, _, rfl, ml2.fin_b sa sb (by simpa using z2), ⟨gs.kd, gs.ar, gs.pe, gs.fd⟩, g4⟩)
          rw [if_neg z2]
          have z2' : ib + 1 < b.size := by simp at z2; (clear sz2 szx bx vx k1 sz0 p3 p1 hi m3 m2 m1 l3 l2 l1 hj e2' e1' hb ha; omega)
          refine kasC_bind (el_ok (by (clear z2' sz2 szx bx k1 sz0 p3 p2 p1 hi m3 m2 m1 l3 l2 l1 hj e2' e1' hb ha; omega)) ?_)
          refine kasC_bind (galL H oo (fun i hi => hx _ (ats_mem (by (clear hi z2' sz2 szx bx k1 sz0 p3 p2 p1 m3 m2 m1 l3 l2 l1 hj e2' e1' hb ha; omega))) _ (ats_mem (by (clear z2' sz2 szx bx vx k1 sz0 p3 p2 p1 m3 m2 m1 l3 l2 l1 hj e2' e1' hb ha; omega)))) (Up.of o sb (by (clear z2' sz2 szx bx vx k1 sz0 p3 p1 hi m3 m2 m1 l3 l2 l1 hj e2' e1' hb ha; omega))) mb (ma _ (ats_mem (by (clear z2' sz2 szx bx k1 sz0 p3 p2 p1 hi m3 m2 m1 l3 l2 l1 hj e2' e1' hb ha; omega)))) (by (clear z2' sz2 szx bx vx k1 sz0 p3 p1 hi m3 m2 m1 l3 l2 l1 hj e2' e1' hb ha; omega)) (by (clear sz2 szx bx vx k1 sz0 p3 p2 p1 hi m3 m2 m1 l3 l2 l1 hj e2' e1' hb ha; omega)) (gs.kd.trans kd) g4 fun l s5 l1 l2 l3 g5 => ?_)
          dsimp only
          generalize hou : ou.push (ats b ib) = ov at *
          generalize hib : ib + 1 = jb at *
          rw [← ite_not]
          generalize hO : ov = o'
          generalize hI : jb = i'
          revert i' o'
          refine kasC_jp (fun ow jc => ML c a b ow ja jc ∧ jc < b.size ∧ c (ats b jc) (ats a ja) = false ∧ ov.size ≤ ow.size) (fun lz => ⟨ml2, z2', ?_, Nat.le_refl _⟩) (fun lz key => ?_) ?_
          · have l0 : l = 0 := by (clear sz2 l1 z2' hib szx bx vx k1 sz0 p3 p2 p1 hi m3 m2 m1 hj e2' e1' hb ha; omega)
            have := l3 (by (clear l0 sz2 l1 hib szx bx vx k1 sz0 p3 p2 p1 hi m3 m2 m1 hj e2' e1' hb ha; omega))
            rwa [l0, Nat.add_zero] at this
          · have ml3 := (ml2.swap.add (k := l) o sb sa (by (clear lz sz2 l1 z2' hib szx bx k1 sz0 p3 p2 p1 hi m3 m2 m1 hj e2' e1' hb ha; omega)) fun t t1 t2 => o.asym (l2 t t1)).swap
            have sz3 := ml3.size (by (clear lz sz2 l1 z2' hib szx bx k1 sz0 p3 p2 p1 hi m3 m2 m1 hj e2' e1' hb ha; omega)) (by (clear lz sz2 z2' szx bx vx k1 sz0 p3 p1 hi m3 m2 m1 hj e2' e1' hb ha; omega))
            by_cases z3 : (jb + l == b.size) = true
            · rw [if_pos z3]
              exact kasC_pure (.inl ⟨_, _, rfl, ml3.fin_b sa sb (by simpa using z3), ⟨gs.kd, gs.ar, gs.pe, gs.fd⟩, g5⟩)
            rw [if_neg z3]
            have z3' : jb + l < b.size := by simp at z3; (clear sz3 lz sz2 z2' szx bx vx k1 sz0 p3 p1 hi m3 m2 m1 hj e2' e1' hb ha; omega)
            exact key _ _ ⟨ml3, z3', l3 (by (clear sz3 lz sz2 l1 z2' hib szx bx vx k1 sz0 p3 p2 p1 hi m3 m2 m1 hj e2' e1' hb ha; omega)), by (clear z3' lz l1 z2' hib szx bx vx k1 sz0 p3 p2 p1 hi m3 m2 m1 hj e2' e1' hb ha; omega)⟩
          rintro ow jc ⟨ml3, z3', w3, b3⟩
          have sz3 := ml3.size (by (clear b3 z3' sz2 l1 z2' hib szx bx k1 sz0 p3 p2 p1 hi m3 m2 m1 hj e2' e1' hb ha; omega)) (by (clear b3 sz2 l1 z2' hib szx bx vx k1 sz0 p3 p2 p1 hi m3 m2 m1 hj e2' e1' hb ha; omega))
          refine kasC_bind (el_ok (by (clear sz3 b3 z3' sz2 l1 z2' hib szx bx k1 sz0 p3 p2 p1 hi m3 m2 m1 hj e2' e1' hb ha; omega)) ?_)
          have ml4 := ml3.push o sa sb (by (clear sz3 b3 z3' sz2 l1 z2' hib szx bx k1 sz0 p3 p2 p1 hi m3 m2 m1 hj e2' e1' hb ha; omega)) z3' w3
          have sz4 := ml4.size (by (clear sz3 b3 z3' sz2 l1 z2' hib szx bx k1 sz0 p3 p2 p1 hi m3 m2 m1 hj e2' e1' hb ha; omega)) (by (clear sz3 b3 sz2 l1 z2' hib szx bx vx k1 sz0 p3 p2 p1 hi m3 m2 m1 hj e2' e1' hb ha; omega))
          split
          · rename_i z4
            exact kasC_pure (.inl ⟨_, _, rfl, ml4.fin_l o sa sb (by simpa using z4) hb f2, ⟨gs.kd, gs.ar, gs.pe, gs.fd⟩, g5⟩)
          · rename_i z4
            have z4' : ja + 1 + 1 < a.size := by simp at z4; (clear sz4 sz3 b3 z3' sz2 l1 z2' hib szx bx k1 sz0 p3 p2 p1 hi m3 m2 m1 hj e2' e1' hb ha; omega)
            split
            · exact kasC_pure (.inr ⟨_, _, _, _, _, _, rfl, ml4, z4', z3', by (clear z4' z3' l1 z2' vx k1 sz0 p2 p1 hi m3 m2 m1 hj e2' e1' hb ha; omega), ⟨gs.kd, gs.ar, gs.pe, gs.fd⟩, g5⟩)
            · exact kasC_pure ⟨_, _, _, _, _, _, rfl, ml4, z4', z3', by (clear z4' z3' l1 z2' vx k1 sz0 p2 p1 hi m3 m2 m1 hj e2' e1' hb ha; omega), ⟨gs.kd, gs.ar, gs.pe, gs.fd⟩, g5⟩
        · rintro _ st3 s3 ⟨out, ia, ib, mg, ac, bc, rfl, ml, p1, p2, p3, gs, g3⟩
          exfalso
          have sz0 := ml.size (by (clear p3 p2 m3 m2 m1 l3 l2 l1 hj e2' e1' hb ha; omega)) (by (clear p3 p1 m3 m2 m1 l3 l2 l1 hj e2' e1' hb ha; omega))
          (clear m3 m2 m1 l3 l2 l1 hj e2' e1' hb ha; omega)
        · exact ⟨out1, ia1, ib1, _, ac1, bc1, rfl, ml2, m1, m2, by (clear m3 m2 m1 l3 l2 l1 hj e2' e1' hb ha; omega), gs2, g2⟩
        · rintro _ st3 s3 (⟨r, rest, rfl, z1, z2, z3⟩ | ⟨out, ia, ib, mg, ac, bc, rfl, ml, p1, p2, p3, gs, g3⟩)
          · exact kasC_pure ⟨_, _, rfl, z1, z2, z3⟩
          · dsimp only
            refine kasC_bind (kasC_modify (kasC_pure ?_))
            exact ⟨out, ia, ib, _, rfl, ml, p1, p2, by (clear p2 p1 m2 m1 l2 l1 hj e2' e1' hb ha; omega), ⟨gs.kd, gs.ar, gs.pe, gs.fd⟩, g3⟩
  · rintro _ st1 s1 ⟨out0, ia0, ib0, mg0, rfl, ml1, l1, l2, l3, gs1, g1⟩
    exfalso
    have sz0 := ml1.size (by (clear l3 l2 e2' e1' hb ha; omega)) (by (clear l3 l1 e2' e1' hb ha; omega))
    (clear e2' e1' hb ha; omega)
  · exact ⟨_, _, _, _, rfl, ml0, by (clear e1' hb ha; omega), e1', by simp, Gs.rf _, g⟩
  · rintro _ st1 s1 ⟨r, rest, rfl, z1, z2, z3⟩
    exact kasC_pure (q _ _ _ z1 z2 z3)
end
end TSrt
set_option Elab.async false
set_option linter.all false
set_option maxRecDepth 100000
namespace TSrt
open PySem PySem.W PyProof.Rows
section pure
variable {c : Keyed → Keyed → Bool}
structure MH (c : Keyed → Keyed → Bool) (a b : Array Keyed) (out : Array Keyed) (na nb : Nat) : Prop where
  so : out.toList.Pairwise fun x y => c x y = false
  pm : out.toList.Perm (a.toList.drop na ++ b.toList.drop nb)
  oa : ∀ x ∈ out.toList, ∀ y ∈ a.toList.take na, c x y = false
  ob : ∀ x ∈ out.toList, ∀ y ∈ b.toList.take nb, c x y = false
theorem MH.swap {a b out : Array Keyed} {ia ib : Nat} (h : MH c a b out ia ib) : MH c b a out ib ia := ⟨h.so, h.pm.trans List.perm_append_comm, h.ob, h.oa⟩
theorem MH.size {a b out : Array Keyed} {ia ib : Nat} (h : MH c a b out ia ib) (ha : ia ≤ a.size) (hb : ib ≤ b.size) : out.size = a.size - ia + (b.size - ib) := by
  have := h.pm.length_eq
  simp only [List.length_append, List.length_drop, Array.length_toList] at this
  omega
theorem mem_front {xs : Array Keyed} {k : Nat} {y : Keyed} (h : y ∈ xs.toList.take k) : ∃ t, t < k ∧ t < xs.size ∧ y = ats xs t := by
  have : y ∈ (xs.toList.drop 0).take k := h
  obtain ⟨t, t1, t2, e⟩ := mem_seg this
  rw [Nat.zero_add] at t2 e
  exact ⟨t, t1, t2, e⟩
theorem MH.add {a b out : Array Keyed} {na nb at_ : Nat} (o : Sw c) (sa : Asc c a.toList) (sb : Asc c b.toList) (h : MH c a b out na nb) (hat : at_ ≤ na) (hna : na ≤ a.size) (hb : 0 < nb) (hnb : nb ≤ b.size) (q : ∀ t, at_ ≤ t → t < na → c (ats a t) (ats b (nb - 1)) = false) :
    MH c a b (out ++ (a.extract at_ na).reverse) at_ nb := by
  have e : (out ++ (a.extract at_ na).reverse).toList = out.toList ++ ((a.toList.drop at_).take (na - at_)).reverse := by
    rw [Array.toList_append, Array.toList_reverse, Array.toList_extract, List.extract_eq_drop_take]
  have hd : a.toList.take na = a.toList.take at_ ++ (a.toList.drop at_).take (na - at_) := by
    conv => lhs; rw [show na = at_ + (na - at_) by omega, List.take_add]
  have hd2 : a.toList.drop at_ = (a.toList.drop at_).take (na - at_) ++ a.toList.drop na := by
    conv => lhs; rw [← List.take_append_drop (na - at_) (a.toList.drop at_)]
    rw [List.drop_drop, show at_ + (na - at_) = na by omega]
  have sd := (sa.split na).1
  rw [hd] at sd
  obtain ⟨-, s1, s2⟩ := List.pairwise_append.mp sd
  have hin : ∀ y, y ∈ (a.toList.drop at_).take (na - at_) → y ∈ a.toList.take na := fun y hy => by rw [hd]; exact List.mem_append_right _ hy
  constructor
  · rw [e]
    refine List.pairwise_append.mpr ⟨h.so, ?_, fun x hx y hy => h.oa x hx y (hin y (List.mem_reverse.mp hy))⟩
    rw [List.pairwise_reverse]; exact s1
  · rw [e]
    have key : ∀ (u x y z : List Keyed), z.Perm (x ++ y) → (z ++ u.reverse).Perm (u ++ x ++ y) := fun u x y z p => by
      refine ((p.append (List.reverse_perm u))).trans ?_
      rw [List.append_assoc u]
      exact List.perm_append_comm
    have p := key ((a.toList.drop at_).take (na - at_)) _ _ _ h.pm
    rw [← hd2] at p
    exact p
  · rw [e]
    intro x hx y hy
    rcases List.mem_append.mp hx with hx | hx
    · exact h.oa x hx y (by rw [hd]; exact List.mem_append_left _ hy)
    · exact s2 y hy x (List.mem_reverse.mp hx)
  · rw [e]
    intro x hx y hy
    rcases List.mem_append.mp hx with hx | hx
    · exact h.ob x hx y hy
    · obtain ⟨t, t1, t2, rfl⟩ := mem_seg (List.mem_reverse.mp hx)
      obtain ⟨u, u1, u2, rfl⟩ := mem_front hy
      exact o.tr (sb.at o (show u ≤ nb - 1 by omega) (by omega)) (q (at_ + t) (by omega) (by omega))
theorem MH.push {a b out : Array Keyed} {na nb : Nat} (o : Sw c) (sa : Asc c a.toList) (sb : Asc c b.toList) (h : MH c a b out na nb) (h0 : 0 < na) (hna : na ≤ a.size) (hb : 0 < nb) (hnb : nb ≤ b.size) (q : c (ats a (na - 1)) (ats b (nb - 1)) = false) :
    MH c a b (out.push (ats a (na - 1))) (na - 1) nb := by
  have := h.add (at_ := na - 1) o sa sb (by omega) hna hb hnb fun t t1 t2 => by
    obtain rfl : t = na - 1 := by omega
    exact q
  have e : out ++ (a.extract (na - 1) na).reverse = out.push (ats a (na - 1)) := by
    apply Array.toList_inj.mp
    rw [Array.toList_append, Array.toList_reverse, Array.toList_extract, List.extract_eq_drop_take, Array.toList_push, dropped (by omega)]
    rw [show na - (na - 1) = 1 by omega]; rfl
  rwa [e] at this
theorem MH.fin {a b out : Array Keyed} {na nb : Nat} (sa : Asc c a.toList) (sb : Asc c b.toList) (h : MH c a b out na nb) (q : ∀ x ∈ a.toList.take na, ∀ y ∈ b.toList.take nb, c y x = false) : Merged c a b (a.extract 0 na ++ b.extract 0 nb ++ out.reverse) := by
  have e : (a.extract 0 na ++ b.extract 0 nb ++ out.reverse).toList = a.toList.take na ++ b.toList.take nb ++ out.toList.reverse := by
    rw [Array.toList_append, Array.toList_append, Array.toList_reverse, Array.toList_extract, Array.toList_extract, List.extract_eq_drop_take, List.extract_eq_drop_take]; rfl
  refine ⟨?_, ?_⟩
  · rw [e]
    refine ((sa.split na).1.app (sb.split nb).1 q).app (by unfold Asc; rw [List.pairwise_reverse]; exact h.so) fun x hx y hy => ?_
    have hy := List.mem_reverse.mp hy
    rcases List.mem_append.mp hx with hx | hx
    · exact h.oa y hy x hx
    · exact h.ob y hy x hx
  · rw [e]
    refine (List.Perm.append_left _ ((List.reverse_perm _).trans h.pm)).trans ?_
    conv => rhs; rw [← List.take_append_drop na a.toList, ← List.take_append_drop nb b.toList]
    rw [List.append_assoc, List.append_assoc]
    refine List.Perm.append_left _ ?_
    rw [← List.append_assoc, ← List.append_assoc]
    exact List.perm_append_comm.append_right _
theorem MH.fin_a {a b out : Array Keyed} {na nb : Nat} (sa : Asc c a.toList) (sb : Asc c b.toList) (h : MH c a b out na nb) (e : na = 0) : Merged c a b (a.extract 0 na ++ b.extract 0 nb ++ out.reverse) := h.fin sa sb fun x hx => by
  rw [e] at hx; simp at hx
theorem MH.fin_b {a b out : Array Keyed} {na nb : Nat} (sa : Asc c a.toList) (sb : Asc c b.toList) (h : MH c a b out na nb) (e : nb = 0) : Merged c a b (a.extract 0 na ++ b.extract 0 nb ++ out.reverse) := h.fin sa sb fun x _ y hy => by
  rw [e] at hy; simp at hy
theorem MH.fin_l {a b out : Array Keyed} {na nb : Nat} (o : Sw c) (sa : Asc c a.toList) (sb : Asc c b.toList) (h : MH c a b out na nb) (e : nb = 1) (ha : 0 < a.size) (hb : 0 < b.size) (q : c (ats b 0) (ats a 0) = true) : Merged c a b (b.extract 0 nb ++ a.extract 0 na ++ out.reverse) :=
  (h.swap.fin sb sa fun x hx y hy => by
    obtain ⟨t, t1, t2, rfl⟩ := mem_front hx
    obtain ⟨u, u1, u2, rfl⟩ := mem_front hy
    obtain rfl : t = 0 := by omega
    exact o.tr (o.asym q) (sa.at o (Nat.zero_le u) u2)).swap
end pure
section
variable {M : Model} {A : Around} {E : Value → Shared → Prop} {κ : SortKind} {a0 : Array Keyed} {c0 c : Keyed → Keyed → Bool} {ix : Keyed → Nat} {G : Shared → Prop}
theorem hi_ok (H : Cmp M A κ a0 c0 G) (oo : Od c0 c ix) {a b : Array Keyed} {st : SortSt} {s : Shared} {Q : Array Keyed → SortSt → Shared → Prop} (sa : Asc c a.toList) (sb : Asc c b.toList) (ma : ∀ x ∈ a.toList, x ∈ a0.toList) (mb : ∀ x ∈ b.toList, x ∈ a0.toList)
    (hx : ∀ x ∈ a.toList, ∀ y ∈ b.toList, ix x < ix y) (ha : 0 < a.size) (hb : 0 < b.size) (f1 : c (ats b 0) (ats a 0) = true) (f2 : c (ats b (b.size - 1)) (ats a (a.size - 1)) = true) (kd : kindOf st = κ) (g : G s)
    (q : ∀ r st' s', Merged c a b r → Gs st st' → G s' → Q r st' s') : kasC M A E (mergeHi' a b) Q st s := by
  have o := oo.o
  unfold mergeHi'
  refine kasC_bind (kasC_lift (wpAny_rule ?_))
  refine kasC_bind (el_ok (show a.size - 1 < a.size by omega) ?_)
  have ml0 : MH c a b #[ats a (a.size - 1)] (a.size - 1) b.size := by
    have := MH.push (out := #[]) (a := a) (b := b) (na := a.size) (nb := b.size) o sa sb ⟨List.Pairwise.nil, by simp, fun x hx => by simp at hx, fun x hx => by simp at hx⟩ ha (Nat.le_refl _) hb (Nat.le_refl _) (o.asym f2)
    exact this
  dsimp only
  by_cases e1 : (a.size - 1 == 0) = true
  · rw [if_pos e1]; exact kasC_pure (q _ st s (ml0.fin_a sa sb (by simpa using e1)) (Gs.rf _) g)
  rw [if_neg e1]
  by_cases e2 : (b.size == 1) = true
  · rw [if_pos e2]; exact kasC_pure (q _ st s (ml0.fin_l o sa sb (by simpa using e2) ha hb f1) (Gs.rf _) g)
  rw [if_neg e2]
  have e1' : 0 < a.size - 1 := by simp at e1; omega
  have e2' : 1 < b.size := by simp at e2; omega
  refine kasC_bind (kasC_get ?_)
  refine kasC_bind (kasC_mono (Q := fun d st' s' => ∃ r rest, d = (some r, rest) ∧ Merged c a b r ∧ Gs st st' ∧ G s')
    (kasC_rg (fun j d st' s' => ∃ na nb out mg, d = (none, na, nb, out, mg) ∧ MH c a b out na nb ∧ 0 < na ∧ na ≤ a.size ∧ 1 < nb ∧ nb ≤ b.size ∧ j + 1 ≤ out.size ∧ Gs st st' ∧ G s') ?_ ?_ ?_) ?_)
  · rintro j _ st1 s1 _ hj ⟨na0, nb0, out0, mg0, rfl, ml1, l1, l1', l2, l2', l3, gs1, g1⟩
    refine kasC_bind (kasC_mono (Q := fun d st' s' => (∃ r rest, d = (some r, rest) ∧ Merged c a b r ∧ Gs st st' ∧ G s') ∨ (∃ na nb out ac bc, d = (none, na, nb, out, ac, bc) ∧ MH c a b out na nb ∧ 0 < na ∧ na ≤ a.size ∧ 1 < nb ∧ nb ≤ b.size ∧ out0.size + 1 ≤ out.size ∧ Gs st st' ∧ G s'))
      (kasC_rg (fun j d st' s' => ∃ na nb out ac bc, d = (none, na, nb, out, ac, bc) ∧ MH c a b out na nb ∧ 0 < na ∧ na ≤ a.size ∧ 1 < nb ∧ nb ≤ b.size ∧ out0.size + j ≤ out.size ∧ Gs st st' ∧ G s') ?_ ?_ ?_) ?_)
    · rintro i _ st2 s2 _ hi ⟨na, nb, out, ac, bc, rfl, ml, m1, m1', m2, m2', m3, gs, g2⟩
      dsimp only
      refine kasC_bind (el_ok (by omega) ?_)
      refine kasC_bind (el_ok (by omega) ?_)
      refine kasC_bind (lt_ag H oo (hx _ (ats_mem (by omega)) _ (ats_mem (by omega))) (gs.kd.trans kd) (mb _ (ats_mem (by omega))) (ma _ (ats_mem (by omega))) g2 fun s3 g3 => ?_)
      dsimp only
      cases w : c (ats b (nb - 1)) (ats a (na - 1)) with
      | true =>
        rw [if_pos rfl]
        refine kasC_bind (el_ok (by omega) ?_)
        have ml' := ml.push o sa sb m1 m1' (by omega) m2' (o.asym w)
        have sz := ml'.size (by omega) (by omega)
        have sz0 := ml.size (by omega) (by omega)
        by_cases z : (na - 1 == 0) = true
        · rw [if_pos z]
          exact kasC_pure (.inl ⟨_, _, rfl, ml'.fin_a sa sb (by simpa using z), gs, g3⟩)
        · rw [if_neg z]
          have z' : 0 < na - 1 := by simp at z; omega
          split
          · exact kasC_pure (.inr ⟨_, _, _, _, _, rfl, ml', z', by omega, m2, m2', by omega, gs, g3⟩)
          · exact kasC_pure ⟨_, _, _, _, _, rfl, ml', z', by omega, m2, m2', by omega, gs, g3⟩
      | false =>
        rw [if_neg (by simp)]
        refine kasC_bind (el_ok (by omega) ?_)
        have ml' := (ml.swap.push o sb sa (by omega) m2' m1 m1' w).swap
        have sz := ml'.size (by omega) (by omega)
        have sz0 := ml.size (by omega) (by omega)
        by_cases z : (nb - 1 == 1) = true
        · rw [if_pos z]
          exact kasC_pure (.inl ⟨_, _, rfl, ml'.fin_l o sa sb (by simpa using z) ha hb f1, gs, g3⟩)
        · rw [if_neg z]
          have z' : 1 < nb - 1 := by simp at z; omega
          split
          · exact kasC_pure (.inr ⟨_, _, _, _, _, rfl, ml', m1, m1', z', by omega, by omega, gs, g3⟩)
          · exact kasC_pure ⟨_, _, _, _, _, rfl, ml', m1, m1', z', by omega, by omega, gs, g3⟩
    · rintro _ st2 s2 ⟨na, nb, out, ac, bc, rfl, ml, m1, m1', m2, m2', m3, gs, g2⟩
      exfalso
      have sz0 := ml.size (by omega) (by omega)
      omega
    · exact ⟨na0, nb0, out0, 0, 0, rfl, ml1, l1, l1', l2, l2', by omega, gs1, g1⟩
    · rintro _ st2 s2 (⟨r, rest, rfl, z1, z2, z3⟩ | ⟨na1, nb1, out1, ac1, bc1, rfl, ml2, m1, m1', m2, m2', m3, gs2, g2⟩)
      · exact kasC_pure ⟨_, _, rfl, z1, z2, z3⟩
      · dsimp only
        refine kasC_bind (kasC_lift (wpAny_rule ?_))
        refine kasC_bind (kasC_mono (Q := fun d st' s' => (∃ r rest, d = (some r, rest) ∧ Merged c a b r ∧ Gs st st' ∧ G s') ∨ (∃ na nb out mg ac bc, d = (none, na, nb, out, mg, ac, bc) ∧ MH c a b out na nb ∧ 0 < na ∧ na ≤ a.size ∧ 1 < nb ∧ nb ≤ b.size ∧ out1.size ≤ out.size ∧ Gs st st' ∧ G s'))
          (kasC_rg (fun j d st' s' => ∃ na nb out mg ac bc, d = (none, na, nb, out, mg, ac, bc) ∧ MH c a b out na nb ∧ 0 < na ∧ na ≤ a.size ∧ 1 < nb ∧ nb ≤ b.size ∧ out1.size + j ≤ out.size ∧ Gs st st' ∧ G s') ?_ ?_ ?_) ?_)
        · rintro i _ st3 s3 _ hi ⟨na, nb, out, mg, ac, bc, rfl, ml, p1, p1', p2, p2', p3, gs, g3⟩
          have sz0 := ml.size (by omega) (by omega)
          dsimp only
          rw [← ite_not]
          revert mg
          refine kasC_two ?_
          intro z
          refine kasC_bind (kasC_modify ?_)
          refine kasC_bind (el_ok (by omega) ?_)
          refine kasC_bind (galR H oo (fun i hi => hx _ (ats_mem (by omega)) _ (ats_mem (by omega))) (Up.of o sa (by omega)) ma (mb _ (ats_mem (by omega))) (by omega) (by omega) (gs.kd.trans kd) g3 fun k s4 k1 k2 k3 g4 => ?_)
          dsimp only
          simp only [Nat.zero_add] at k2 k3
          rw [← ite_not]
          generalize hkk : na - k = kk
          generalize hO : out = o'
          generalize hI : na = i'
          revert i' o'
          refine kasC_jp (fun ou ja => MH c a b ou ja nb ∧ 0 < ja ∧ ja ≤ a.size ∧ c (ats b (nb - 1)) (ats a (ja - 1)) = false ∧ out.size ≤ ou.size) (fun kz => ⟨ml, p1, p1', ?_, Nat.le_refl _⟩) (fun kz key => ?_) ?_
          · have k0 : k = na := by omega
            exact k2 (na - 1) (by omega)
          · have k3' := k3 (by omega)
            have mlx := ml.add (at_ := k) o sa sb (by omega) (by omega) (by omega) (by omega) fun t t1 t2 => by
              refine o.asym ?_
              cases w : c (ats b (nb - 1)) (ats a t) with
              | true => rfl
              | false => exact absurd k3' (by rw [o.tr (sa.at o t1 (by omega)) w]; simp)
            have szx := mlx.size (by omega) (by omega)
            by_cases z : (k == 0) = true
            · rw [if_pos z]
              exact kasC_pure (.inl ⟨_, _, rfl, mlx.fin_a sa sb (by simpa using z), ⟨gs.kd, gs.ar, gs.pe, gs.fd⟩, g4⟩)
            rw [if_neg z]
            have vx : 0 < k := by simp at z; omega
            exact key _ _ ⟨mlx, vx, by omega, k2 (k - 1) (by omega), by omega⟩
          rintro ou ja ⟨mlx, vx, vx', wx, bx⟩
          have szx := mlx.size (by omega) (by omega)
          refine kasC_bind (el_ok (by omega) ?_)
          have ml2 := (mlx.swap.push o sb sa (by omega) (by omega) (by omega) (by omega) wx).swap
          have sz2 := ml2.size (by omega) (by omega)
          by_cases z2 : (nb - 1 == 1) = true
          · rw [if_pos z2]
            exact kasC_pure (.inl ⟨_, _, rfl, ml2.fin_l o sa sb (by simpa using z2) ha hb f1, ⟨gs.kd, gs.ar, gs.pe, gs.fd⟩, g4⟩)
          rw [if_neg z2]
          have z2' : 1 < nb - 1 := by simp at z2; omega
          refine kasC_bind (el_ok (by omega) ?_)
          refine kasC_bind (galL H oo (fun i hi => hx _ (ats_mem (by omega)) _ (ats_mem (by omega))) (Up.of o sb (by omega)) mb (ma _ (ats_mem (by omega))) (by omega) (by omega) (gs.kd.trans kd) g4 fun l s5 l1 l2 l3 g5 => ?_)
          dsimp only
          simp only [Nat.zero_add] at l2 l3
          rw [← ite_not]
          generalize hou : ou.push (ats b (nb - 1)) = ov at *
          generalize hib : nb - 1 = jb at *
          generalize hll : jb - l = ll
          generalize hO : ov = o'
          generalize hI : jb = i'
          revert i' o'
          refine kasC_jp (fun ow jc => MH c a b ow ja jc ∧ 1 < jc ∧ jc ≤ b.size ∧ c (ats a (ja - 1)) (ats b (jc - 1)) = false ∧ ov.size ≤ ow.size) (fun lz => ⟨ml2, z2', by omega, o.asym ?_, Nat.le_refl _⟩) (fun lz key => ?_) ?_
          · have l0 : l = jb := by omega
            exact l2 (jb - 1) (by omega)
          · have l3' := l3 (by omega)
            have ml3 := (ml2.swap.add (at_ := l) o sb sa (by omega) (by omega) (by omega) (by omega) fun t t1 t2 => o.tr l3' (sb.at o t1 (by omega))).swap
            have sz3 := ml3.size (by omega) (by omega)
            by_cases z3 : (l == 1) = true
            · rw [if_pos z3]
              exact kasC_pure (.inl ⟨_, _, rfl, ml3.fin_l o sa sb (by simpa using z3) ha hb f1, ⟨gs.kd, gs.ar, gs.pe, gs.fd⟩, g5⟩)
            rw [if_neg z3]
            by_cases z5 : (l == 0) = true
            · rw [if_pos z5]
              exact kasC_pure (.inl ⟨_, _, rfl, ml3.fin_b sa sb (by simpa using z5), ⟨gs.kd, gs.ar, gs.pe, gs.fd⟩, g5⟩)
            rw [if_neg z5]
            have z3' : 1 < l := by simp at z3 z5; omega
            exact key _ _ ⟨ml3, z3', by omega, o.asym (l2 (l - 1) (by omega)), by omega⟩
          rintro ow jc ⟨ml3, z3', z3'', w3, b3⟩
          have sz3 := ml3.size (by omega) (by omega)
          refine kasC_bind (el_ok (by omega) ?_)
          have ml4 := ml3.push o sa sb (by omega) (by omega) (by omega) (by omega) w3
          have sz4 := ml4.size (by omega) (by omega)
          split
          · rename_i z4
            exact kasC_pure (.inl ⟨_, _, rfl, ml4.fin_a sa sb (by simpa using z4), ⟨gs.kd, gs.ar, gs.pe, gs.fd⟩, g5⟩)
          · rename_i z4
            have z4' : 0 < ja - 1 := by simp at z4; omega
            split
            · exact kasC_pure (.inr ⟨_, _, _, _, _, _, rfl, ml4, z4', by omega, z3', by omega, by omega, ⟨gs.kd, gs.ar, gs.pe, gs.fd⟩, g5⟩)
            · exact kasC_pure ⟨_, _, _, _, _, _, rfl, ml4, z4', by omega, z3', by omega, by omega, ⟨gs.kd, gs.ar, gs.pe, gs.fd⟩, g5⟩
        · rintro _ st3 s3 ⟨na, nb, out, mg, ac, bc, rfl, ml, p1, p1', p2, p2', p3, gs, g3⟩
          exfalso
          have sz0 := ml.size (by omega) (by omega)
          omega
        · exact ⟨na1, nb1, out1, _, ac1, bc1, rfl, ml2, m1, m1', m2, m2', by omega, gs2, g2⟩
        · rintro _ st3 s3 (⟨r, rest, rfl, z1, z2, z3⟩ | ⟨na, nb, out, mg, ac, bc, rfl, ml, p1, p1', p2, p2', p3, gs, g3⟩)
          · exact kasC_pure ⟨_, _, rfl, z1, z2, z3⟩
          · dsimp only
            refine kasC_bind (kasC_modify (kasC_pure ?_))
            exact ⟨na, nb, out, _, rfl, ml, p1, p1', p2, p2', by omega, ⟨gs.kd, gs.ar, gs.pe, gs.fd⟩, g3⟩
  · rintro _ st1 s1 ⟨na0, nb0, out0, mg0, rfl, ml1, l1, l1', l2, l2', l3, gs1, g1⟩
    exfalso
    have sz0 := ml1.size (by omega) (by omega)
    omega
  · exact ⟨_, _, _, _, rfl, ml0, by omega, by omega, e2', by omega, by simp, Gs.rf _, g⟩
  · rintro _ st1 s1 ⟨r, rest, rfl, z1, z2, z3⟩
    exact kasC_pure (q _ _ _ z1 z2 z3)
end
end TSrt
set_option Elab.async false
set_option linter.all false
set_option maxRecDepth 100000
namespace TSrt
open PySem PySem.W PyProof.Rows
theorem ats_set {xs : Array Keyed} {i j : Nat} {v : Keyed} (hi : i < xs.size) : ats (xs.setIfInBounds i v) j = if j = i then v else ats xs j := by
  unfold ats
  rw [Array.getElem?_setIfInBounds]
  by_cases e : i = j
  · subst e; rw [if_pos rfl, if_pos rfl, if_pos hi]; rfl
  · rw [if_neg e, if_neg (fun z => e z.symm)]
theorem put_all (p : Nat) : ∀ (r : List Keyed) (xs : Array Keyed) (m : Nat), p + m + r.length ≤ xs.size →
    ((r.zipIdx m).foldl (fun a x => a.setIfInBounds (p + x.2) x.1) xs).size = xs.size ∧
    ∀ j, ats ((r.zipIdx m).foldl (fun a x => a.setIfInBounds (p + x.2) x.1) xs) j = if p + m ≤ j ∧ j < p + m + r.length then (r[j - (p + m)]?).getD (.none, .none) else ats xs j
  | [], xs, m, h => ⟨rfl, fun j => by rw [if_neg (by rw [List.length_nil]; (clear h; omega))]; rfl⟩
  | x :: r, xs, m, h => by
    rw [List.length_cons] at h
    rw [List.zipIdx_cons, List.foldl_cons]
    obtain ⟨h1, h2⟩ := put_all p r (xs.setIfInBounds (p + m) x) (m + 1) (by rw [Array.size_setIfInBounds]; omega)
    refine ⟨h1.trans (Array.size_setIfInBounds ..), fun j => ?_⟩
    rw [h2 j, ats_set (by (clear h1; omega)), List.length_cons]
    by_cases e : j = p + m
    · subst e
      rw [if_neg (by (clear h1 h; omega)), if_pos rfl, if_pos (by (clear h1 h; omega)), Nat.sub_self]; rfl
    · by_cases e2 : p + (m + 1) ≤ j ∧ j < p + (m + 1) + r.length
      · rw [if_pos e2, if_pos (by (clear e h1 h; omega))]
        obtain ⟨t, ht⟩ : ∃ t, j - (p + m) = t + 1 := ⟨j - (p + m) - 1, by (clear e h1 h; omega)⟩
        rw [ht, show j - (p + (m + 1)) = t by (clear e2 e h1 h; omega), List.getElem?_cons_succ]
      · rw [if_neg e2, if_neg e, if_neg (by (clear h1 h; omega))]
theorem list_of {xs : Array Keyed} {l : List Keyed} (hl : l.length = xs.size) (h : ∀ j, j < xs.size → ats xs j = (l[j]?).getD (.none, .none)) : xs.toList = l := by
  apply List.ext_getElem (by simpa using hl.symm)
  intro j h1 h2
  have h1' : j < xs.size := by simpa using h1
  have := h j h1'
  rw [ats_ge, List.getElem?_eq_getElem h1, List.getElem?_eq_getElem h2] at this
  exact this
theorem put_perm {xs ys : Array Keyed} {r x : List Keyed} {p : Nat} (hz : ys.size = xs.size) (hp : p + r.length ≤ xs.size) (hy : ∀ j, ats ys j = if p ≤ j ∧ j < p + r.length then (r[j - p]?).getD (.none, .none) else ats xs j) (hr : r.Perm x) (hx : x = (xs.toList.drop p).take r.length) : ys.Perm xs := by
  have e : ys.toList = xs.toList.take p ++ (r ++ xs.toList.drop (p + r.length)) := by
    refine list_of ?_ fun j hj => ?_
    · simp only [List.length_append, List.length_take, List.length_drop, Array.length_toList]; omega
    · rw [hy j]
      have hl : (xs.toList.take p).length = p := by simp; (clear hj hz; omega)
      by_cases e1 : j < p
      · rw [if_neg (by (clear hl hj hp hz; omega)), List.getElem?_append_left (by (clear hj hp hz; omega)), List.getElem?_take, if_pos e1, ats_ge]
      · rw [List.getElem?_append_right (by (clear hj hp hz; omega)), hl]
        by_cases e2 : j < p + r.length
        · rw [if_pos (by (clear hl hj hp hz; omega)), List.getElem?_append_left (by (clear hl hj hp hz; omega))]
        · rw [if_neg (by (clear e1 hl hj hp hz; omega)), List.getElem?_append_right (by (clear e1 hl hj hp hz; omega)), List.getElem?_drop, show p + r.length + (j - p - r.length) = j by (clear e1 hl hj hp hz; omega), ats_ge]
  rw [Array.perm_iff_toList_perm, e]
  conv => rhs; rw [← List.take_append_drop p xs.toList, ← List.take_append_drop r.length (xs.toList.drop p), List.drop_drop]
  rw [← hx]
  exact List.Perm.append_left _ (hr.append_right _)
theorem ats_ext {xs : Array Keyed} {i j t : Nat} (h : i + t < j) (hj : j ≤ xs.size) : ats (xs.extract i j) t = ats xs (i + t) := by
  refine ats_of ?_
  rw [Array.getElem?_extract, if_pos (by omega)]
theorem Asc.ext {c : Keyed → Keyed → Bool} {xs : Array Keyed} {i j : Nat} (h : Up c xs i j) (hj : j ≤ xs.size) : Asc c (xs.extract i j).toList := by
  refine List.pairwise_iff_getElem.mpr fun t u ht hu htu => ?_
  have z : (xs.extract i j).size = j - i := by rw [Array.size_extract]; (clear htu hu ht; omega)
  have hu' : u < j - i := by have := hu; rw [Array.length_toList, z] at this; exact this
  have e1 : (xs.extract i j).toList[t] = ats (xs.extract i j) t := by rw [ats_ge, List.getElem?_eq_getElem ht]; rfl
  have e2 : (xs.extract i j).toList[u] = ats (xs.extract i j) u := by rw [ats_ge, List.getElem?_eq_getElem hu]; rfl
  rw [e1, e2, ats_ext (by (clear z htu hj; omega)) hj, ats_ext (by (clear z hj; omega)) hj]
  exact h _ _ (by (clear hu' z htu hj; omega)) (by (clear hu' z hj; omega)) (by (clear z htu hj; omega))
theorem mem_ext {xs : Array Keyed} {i j : Nat} {y : Keyed} (h : y ∈ (xs.extract i j).toList) : ∃ t, i ≤ t ∧ t < j ∧ t < xs.size ∧ y = ats xs t := by
  rw [Array.toList_extract, List.extract_eq_drop_take] at h
  obtain ⟨t, t1, t2, e⟩ := mem_seg h
  exact ⟨i + t, by (clear t2 t1; omega), by (clear t2; omega), t2, e⟩
section
variable {M : Model} {A : Around} {E : Value → Shared → Prop} {κ : SortKind} {a0 : Array Keyed} {c0 c : Keyed → Keyed → Bool} {ix : Keyed → Nat} {G : Shared → Prop}
theorem at_ok (H : Cmp M A κ a0 c0 G) (oo : Od c0 c ix) {i sa na pw sb nb pv : Nat} {st : SortSt} {s : Shared} {Q : Bool → SortSt → Shared → Prop} (b : SB κ a0 st) (p1 : (pendingOf st)[i]? = some (sa, na, pw)) (p2 : (pendingOf st)[i + 1]? = some (sb, nb, pv))
    (hs : sb = sa + na) (hz : sb + nb ≤ a0.size) (hna : 0 < na) (hnb : 0 < nb) (ua : Up c (arrOf st) sa sb) (ub : Up c (arrOf st) sb (sb + nb)) (la : Loc ix (arrOf st) sa sb) (lb : Loc ix (arrOf st) sb (sb + nb)) (g : G s)
    (q : ∀ st' s', SB κ a0 st' → pendingOf st' = ((pendingOf st).setIfInBounds i (sa, na + nb, pw)).eraseIdxIfInBounds (i + 1) → Up c (arrOf st') sa (sb + nb) → Loc ix (arrOf st') sa (sb + nb) → (∀ j, j < sa ∨ sb + nb ≤ j → ats (arrOf st') j = ats (arrOf st) j) → G s' → Q true st' s') : kasC M A E (mergeAt' i) Q st s := by
  have o := oo.o
  have hsz := b.sz
  have mem : ∀ x ∈ (arrOf st).toList, x ∈ a0.toList := fun x hx => (Array.perm_iff_toList_perm.mp b.pm).mem_iff.mp hx
  unfold mergeAt'
  refine kasC_bind (kasC_get ?_)
  have e : ((pendingOf st)[i]?, (pendingOf st)[i + 1]?) = (some (sa, na, pw), some (sb, nb, pv)) := by rw [p1, p2]
  split
  case h_2 x ne => exact absurd e (ne _ _ _ _ _ _)
  rename_i sa' na' pw' sb' nb' pv' e'
  have e2 := e'.symm.trans e
  simp only [Prod.mk.injEq, Option.some.injEq] at e2
  obtain ⟨⟨rfl, rfl, rfl⟩, rfl, rfl, rfl⟩ := e2
  refine kasC_bind (kasC_set ?_)
  refine kasC_bind (el_ok (show sb' < (arrOf st).size by (clear hs hna; omega)) ?_)
  subst hs
  refine kasC_bind (galR H oo (fun i hi => by have z1 := la (sa' + i) (by (clear hi hz hnb hna hsz; omega)) (by (clear hz hnb hna hsz; omega)); have z2 := lb (sa' + na') (by (clear z1 hi hz hnb hna hsz; omega)) (by (clear z1 hi hz hna hsz; omega)); exact Nat.lt_of_lt_of_le z1.2 z2.1) ua mem (mem _ (ats_mem (show sa' + na' < (arrOf st).size by (clear hna; omega)))) (show sa' + na' ≤ (arrOf st).size by (clear hnb hna; omega)) hna b.kd g fun k s1 k1 k2 k3 g1 => ?_)
  dsimp only
  have same : ∀ (mid : ∀ i j, sa' ≤ i → i < sa' + na' → sa' + na' ≤ j → j < sa' + na' + nb' → c (ats (arrOf st) j) (ats (arrOf st) i) = false), Up c (arrOf st) sa' (sa' + na' + nb') := fun mid i j z1 z2 z3 => by
    by_cases y1 : j < sa' + na'
    · exact ua i j z1 z2 y1
    · by_cases y2 : i < sa' + na'
      · exact mid i j z1 y2 (by (clear y2 z3 z2 z1 k1 hz hnb hna hsz; omega)) z3
      · exact ub i j (by (clear y1 z3 z2 z1 k1 hz hnb hna hsz; omega)) z2 z3
  have lall : Loc ix (arrOf st) sa' (sa' + na' + nb') := fun j z1 z2 => by
    by_cases z : j < sa' + na'
    · have := la j z1 z; (clear z z2 z1 k1 hz hnb hna hsz; omega)
    · have := lb j (by (clear z2 z1 k1 hz hnb hna hsz; omega)) z2; (clear z z2 z1 k1 hz hnb hna hsz; omega)
  by_cases z1 : (na' - k == 0) = true
  · rw [if_pos z1]
    have z1' : k = na' := by simp at z1; (clear hz hnb hna hsz; omega)
    refine kasC_pure (q _ s1 ⟨b.pm, b.kd, b.fd⟩ rfl (same fun i j y1 y2 y3 y4 => ?_) lall (fun _ _ => rfl) g1)
    have w := k2 (i - sa') (by (clear y4 y3 y1 k1 hz hnb hsz; omega))
    rw [show sa' + (i - sa') = i by (clear y4 y3 y2 z1' k1 hz hnb hna hsz; omega)] at w
    exact o.tr w (ub _ _ (by (clear y4 y3 y2 y1 z1' k1 hz hnb hna hsz; omega)) y3 y4)
  rw [if_neg z1]
  have z1' : k < na' := by simp at z1; (clear k1 hz hnb hna hsz; omega)
  have k3 := k3 z1'
  refine kasC_bind (el_ok (show sa' + k + (na' - k) - 1 < (arrOf st).size by (clear z1' hnb; omega)) ?_)
  rw [show sa' + k + (na' - k) - 1 = sa' + na' - 1 by (clear z1' hz hnb hna hsz; omega)]
  refine kasC_bind (galL H oo (fun i hi => by have z1 := la (sa' + na' - 1) (by (clear hi z1' k1 hz hnb hsz; omega)) (by (clear hi z1' k1 hz hnb hsz; omega)); have z2 := lb (sa' + na' + i) (by (clear z1 hi z1' k1 hz hnb hna hsz; omega)) (by (clear z1 z1' k1 hz hnb hna hsz; omega)); exact Nat.lt_of_lt_of_le z1.2 z2.1) ub mem (mem _ (ats_mem (show sa' + na' - 1 < (arrOf st).size by (clear z1' k1 hnb; omega)))) (show sa' + na' + nb' ≤ (arrOf st).size by (clear z1' k1 hnb hna; omega)) (by (clear z1' k1 hz hna hsz; omega)) b.kd g1 fun l s2 l1 l2 l3 g2 => ?_)
  dsimp only
  by_cases z2 : (l == 0) = true
  · rw [if_pos z2]
    have z2' : l = 0 := by simpa using z2
    subst z2'
    refine kasC_pure (q _ s2 ⟨b.pm, b.kd, b.fd⟩ rfl (same fun i j y1 y2 y3 y4 => ?_) lall (fun _ _ => rfl) g2)
    exact o.tr (o.tr (ua i (sa' + na' - 1) y1 (by (clear y4 y3 y1 l1 z1' k1 hz hnb hna hsz; omega)) (by (clear y4 y3 y2 y1 l1 z1' k1 hz hnb hsz; omega))) (l3 hnb)) (ub _ _ (by (clear y4 y3 y2 y1 l1 z1' k1 hz hnb hna hsz; omega)) y3 y4)
  rw [if_neg z2]
  have z2' : 0 < l := by simp at z2; (clear l1 z1' k1 hz hnb hna hsz; omega)
  have xz : ((arrOf st).extract (sa' + k) (sa' + na')).size = na' - k := by rw [Array.size_extract]; (clear z2' l1 z1' k1 hnb hna; omega)
  have yz : ((arrOf st).extract (sa' + na') (sa' + na' + l)).size = l := by rw [Array.size_extract]; (clear xz z2' z1' k1 hnb hna; omega)
  have xa : Asc c ((arrOf st).extract (sa' + k) (sa' + na')).toList := Asc.ext (fun i j y1 y2 y3 => ua i j (by (clear y3 y2 yz xz z2' l1 z1' k1 hz hnb hna hsz; omega)) y2 y3) (by (clear yz xz z2' l1 z1' k1 hnb hna; omega))
  have ya : Asc c ((arrOf st).extract (sa' + na') (sa' + na' + l)).toList := Asc.ext (fun i j y1 y2 y3 => ub i j y1 y2 (by (clear y2 y1 yz xz z2' z1' k1 hz hnb hna hsz; omega))) (by (clear yz xz z2' z1' k1 hnb hna; omega))
  have xm : ∀ x ∈ ((arrOf st).extract (sa' + k) (sa' + na')).toList, x ∈ a0.toList := fun x hx => by
    obtain ⟨t, _, _, t3, rfl⟩ := mem_ext hx; exact mem _ (ats_mem t3)
  have ym : ∀ x ∈ ((arrOf st).extract (sa' + na') (sa' + na' + l)).toList, x ∈ a0.toList := fun x hx => by
    obtain ⟨t, _, _, t3, rfl⟩ := mem_ext hx; exact mem _ (ats_mem t3)
  have f1 : c (ats ((arrOf st).extract (sa' + na') (sa' + na' + l)) 0) (ats ((arrOf st).extract (sa' + k) (sa' + na')) 0) = true := by
    rw [ats_ext (by (clear yz xz l1 z1' k1 hz hnb hna hsz; omega)) (by (clear yz xz z2' z1' k1 hnb hna; omega)), ats_ext (by (clear yz xz z2' l1 k1 hz hnb hna hsz; omega)) (by (clear yz xz z2' l1 z1' k1 hnb hna; omega))]; exact k3
  have f2 : c (ats ((arrOf st).extract (sa' + na') (sa' + na' + l)) (((arrOf st).extract (sa' + na') (sa' + na' + l)).size - 1)) (ats ((arrOf st).extract (sa' + k) (sa' + na')) (((arrOf st).extract (sa' + k) (sa' + na')).size - 1)) = true := by
    rw [xz, yz, ats_ext (by (clear yz xz l1 z1' k1 hz hnb hna hsz; omega)) (by (clear yz xz z2' z1' k1 hnb hna; omega)), ats_ext (by (clear yz xz z2' l1 k1 hz hnb hna hsz; omega)) (by (clear yz xz z2' l1 z1' k1 hnb hna; omega)), show sa' + k + (na' - k - 1) = sa' + na' - 1 by (clear yz xz z2' l1 k1 hz hnb hna hsz; omega)]
    exact l2 (l - 1) (by (clear yz xz l1 z1' k1 hz hnb hna hsz; omega))
  have fin : ∀ (r : Array Keyed) (st2 : SortSt) (s3 : Shared), Merged c ((arrOf st).extract (sa' + k) (sa' + na')) ((arrOf st).extract (sa' + na') (sa' + na' + l)) r →
      Gs (SortSt.mk' (kindOf st) (arrOf st) (((pendingOf st).setIfInBounds i (sa', na' + nb', pw')).eraseIdxIfInBounds (i + 1)) (gallopOf st) (failedOf st)) st2 → G s3 →
      Q (failedOf st2).isNone (SortSt.mk' (kindOf st2) ((r.toList.zipIdx).foldl (fun a x => a.setIfInBounds (sa' + k + x.2) x.1) (arrOf st2)) (pendingOf st2) (gallopOf st2) (failedOf st2)) s3 := fun r st2 s3 mg gs g3 => by
    have hr : r.toList.length = na' - k + l := by
      have := mg.2.length_eq
      simp only [List.length_append, Array.length_toList, xz, yz] at this
      rw [Array.length_toList]; exact this
    have ar : arrOf st2 = arrOf st := gs.ar
    obtain ⟨u1, u2⟩ := put_all (sa' + k) r.toList (arrOf st2) 0 (by rw [hr, ar]; (clear hr yz xz z2' z1' hnb hna; omega))
    simp only [Nat.add_zero] at u2
    rw [ar] at u1 u2
    have fd : failedOf st2 = none := gs.fd.trans b.fd
    rw [fd]
    have hx : ((arrOf st).extract (sa' + k) (sa' + na')).toList ++ ((arrOf st).extract (sa' + na') (sa' + na' + l)).toList = ((arrOf st).toList.drop (sa' + k)).take r.toList.length := by
      rw [hr, List.take_add, Array.toList_extract, Array.toList_extract, List.extract_eq_drop_take, List.extract_eq_drop_take, List.drop_drop]
      rw [show sa' + na' - (sa' + k) = na' - k by (clear u1 hr yz xz z2' l1 z1' k1 hz hnb hna hsz; omega), show sa' + na' + l - (sa' + na') = l by (clear u1 hr yz xz z2' l1 z1' k1 hz hnb hna hsz; omega), show sa' + k + (na' - k) = sa' + na' by (clear u1 hr yz xz z2' l1 z1' hz hnb hna hsz; omega)]
    rw [ar]
    have from_ : ∀ j, sa' + k ≤ j → j < sa' + k + r.toList.length → ∃ u, sa' + k ≤ u ∧ u < sa' + na' + l ∧ (r.toList[j - (sa' + k)]?).getD (.none, .none) = ats (arrOf st) u := fun j y1 y2 => by
      have hj : j - (sa' + k) < r.toList.length := by (clear y1 u1 yz xz z2' l1 k1 hz hnb hna hsz; omega)
      rw [List.getElem?_eq_getElem hj]
      have hm := mg.2.mem_iff.mp (List.getElem_mem hj)
      rcases List.mem_append.mp hm with hm | hm
      · obtain ⟨t, t1, t2, _, t3⟩ := mem_ext hm; exact ⟨t, t1, by (clear t1 y2 y1 u1 hr yz xz z2' l1 z1' k1 hz hnb hna hsz; omega), t3⟩
      · obtain ⟨t, t1, t2, _, t3⟩ := mem_ext hm; exact ⟨t, by (clear t2 y2 y1 u1 hr yz xz z2' l1 z1' hz hnb hna hsz; omega), t2, t3⟩
    refine q _ s3 ⟨(put_perm (p := sa' + k) (r := r.toList) u1 (by rw [hr]; (clear u1 hr yz xz z2' z1' hnb hna; omega)) u2 mg.2 hx).trans b.pm, gs.kd.trans b.kd, rfl⟩ gs.pe ?_ ?_ ?_ g3
    · intro i j y1 y2 y3
      show c (ats (List.foldl _ (arrOf st) _) j) (ats (List.foldl _ (arrOf st) _) i) = false
      rw [u2 j, u2 i]
      have lo : ∀ i u, sa' ≤ i → i < sa' + k → sa' + k ≤ u → u < sa' + na' + nb' → c (ats (arrOf st) u) (ats (arrOf st) i) = false := fun i u v1 v2 v3 v4 => by
        by_cases v5 : u < sa' + na'
        · exact ua i u v1 (by (clear v5 v4 v1 y3 y2 y1 u1 hr yz xz z2' l1 z1' k1 hz hnb hna hsz; omega)) v5
        · have w := k2 (i - sa') (by (clear v5 v4 v3 y3 y2 y1 u1 hr yz xz z2' l1 z1' k1 hz hnb hna hsz; omega))
          rw [show sa' + (i - sa') = i by (clear v5 v4 v3 v2 y3 y2 y1 u1 hr yz xz z2' l1 z1' k1 hz hnb hna hsz; omega)] at w
          exact o.tr w (ub _ _ (by (clear v5 v4 v3 v2 v1 y3 y2 y1 u1 hr yz xz z2' l1 z1' k1 hz hnb hna hsz; omega)) (by (clear v4 v3 v2 v1 y3 y2 y1 u1 hr yz xz z2' l1 z1' k1 hz hnb hna hsz; omega)) v4)
      have hi : ∀ u j, sa' + k ≤ u → u < sa' + na' + l → sa' + na' + l ≤ j → j < sa' + na' + nb' → c (ats (arrOf st) j) (ats (arrOf st) u) = false := fun u j v1 v2 v3 v4 => by
        by_cases v5 : u < sa' + na'
        · exact o.tr (o.tr (ua u (sa' + na' - 1) (by (clear v5 v4 v3 v2 y3 y2 y1 u1 hr yz xz z2' l1 z1' k1 hz hnb hna hsz; omega)) (by (clear v4 v3 v2 v1 y3 y2 y1 u1 hr yz xz z2' l1 z1' k1 hz hnb hna hsz; omega)) (by (clear v5 v4 v3 v2 v1 y3 y2 y1 u1 hr yz xz z2' l1 z1' k1 hz hnb hsz; omega))) (l3 (by (clear v5 v2 v1 y3 y2 y1 u1 hr yz xz z2' l1 z1' k1 hz hnb hna hsz; omega)))) (ub _ _ (by (clear v5 v4 v3 v2 v1 y3 y2 y1 u1 hr yz xz z2' l1 z1' k1 hz hnb hna hsz; omega)) v3 v4)
        · exact ub u j (by (clear v4 v3 v2 v1 y3 y2 y1 u1 hr yz xz z2' l1 z1' k1 hz hnb hna hsz; omega)) (by (clear v5 v4 v1 y3 y2 y1 u1 hr yz xz z2' l1 z1' k1 hz hnb hna hsz; omega)) v4
      by_cases c1 : sa' + k ≤ i ∧ i < sa' + k + r.toList.length
      · rw [if_pos c1]
        by_cases c2 : sa' + k ≤ j ∧ j < sa' + k + r.toList.length
        · rw [if_pos c2, ← ats_ge, ← ats_ge]
          exact mg.1.at o (by (clear c2 c1 y3 y1 u1 hr yz xz z2' l1 z1' k1 hz hnb hna hsz; omega)) (by rw [← Array.length_toList]; (clear c1 y3 y2 y1 u1 hr yz xz z2' l1 z1' k1 hz hnb hna hsz; omega))
        · rw [if_neg c2]
          obtain ⟨u, v1, v2, v3⟩ := from_ i c1.1 c1.2
          rw [v3]
          exact hi u j v1 v2 (by (clear v2 v1 y3 y1 u1 yz xz z2' l1 z1' k1 hz hnb hna hsz; omega)) (by (clear v2 v1 c2 c1 y2 y1 u1 hr yz xz z2' l1 z1' k1 hz hnb hna hsz; omega))
      · rw [if_neg c1]
        by_cases c2 : sa' + k ≤ j ∧ j < sa' + k + r.toList.length
        · rw [if_pos c2]
          obtain ⟨u, v1, v2, v3⟩ := from_ j c2.1 c2.2
          rw [v3]
          exact lo i u y1 (by (clear v2 v1 y3 y1 u1 hr yz xz z2' l1 z1' k1 hz hnb hna hsz; omega)) v1 (by (clear v1 c2 c1 y3 y2 y1 u1 hr yz xz z2' z1' k1 hz hnb hna hsz; omega))
        · rw [if_neg c2]
          by_cases c3 : i < sa' + k
          · by_cases c4 : j < sa' + k
            · exact ua i j y1 y2 (by (clear c3 c2 c1 y3 y2 y1 u1 hr yz xz z2' l1 z1' hz hnb hna hsz; omega))
            · exact lo i j y1 c3 (by (clear c3 c2 c1 y3 y2 y1 u1 hr yz xz z2' l1 z1' k1 hz hnb hna hsz; omega)) (by (clear c4 c3 c2 c1 y2 y1 u1 hr yz xz z2' l1 z1' k1 hz hnb hna hsz; omega))
          · exact ub i j (by (clear c2 y3 y2 y1 u1 yz xz z2' l1 z1' k1 hz hnb hna hsz; omega)) y2 (by (clear c3 c2 c1 y2 y1 u1 hr yz xz z2' l1 z1' k1 hz hnb hna hsz; omega))
    · intro j y1 y2
      show sa' ≤ ix (ats (List.foldl _ (arrOf st) _) j) ∧ ix (ats (List.foldl _ (arrOf st) _) j) < sa' + na' + nb'
      rw [u2 j]
      by_cases c2 : sa' + k ≤ j ∧ j < sa' + k + r.toList.length
      · rw [if_pos c2]
        obtain ⟨u, v1, v2, v3⟩ := from_ j c2.1 c2.2
        rw [v3]
        exact lall u (by (clear v2 c2 y2 y1 u1 hr yz xz z2' l1 z1' k1 hz hnb hna hsz; omega)) (by (clear v1 c2 y2 y1 u1 hr yz xz z2' z1' k1 hz hnb hna hsz; omega))
      · rw [if_neg c2]; exact lall j y1 y2
    · intro j hj
      show ats (List.foldl _ (arrOf st) _) j = _
      rw [u2 j, if_neg (by (clear u1 yz xz z2' z1' hz hnb hna hsz; omega))]
  have hxy : ∀ x ∈ ((arrOf st).extract (sa' + k) (sa' + na')).toList, ∀ y ∈ ((arrOf st).extract (sa' + na') (sa' + na' + l)).toList, ix x < ix y := fun x hx y hy => by
    obtain ⟨t, t1, t2, _, rfl⟩ := mem_ext hx
    obtain ⟨u, u1, u2, _, rfl⟩ := mem_ext hy
    have z1 := la t (by (clear u2 u1 t2 yz xz z2' l1 z1' k1 hz hnb hna hsz; omega)) (by (clear u2 u1 t1 yz xz z2' l1 z1' k1 hz hnb hna hsz; omega))
    have z2 := lb u (by (clear z1 u2 t2 t1 yz xz z2' l1 z1' k1 hz hnb hna hsz; omega)) (by (clear z1 u1 t2 t1 yz xz z2' z1' k1 hz hnb hna hsz; omega))
    (clear u2 u1 t2 t1 yz xz z2' l1 z1' k1 hz hnb hna hsz; omega)
  by_cases z3 : na' - k ≤ l
  · rw [if_pos z3]
    refine kasC_bind (lo_ok H oo xa ya xm ym hxy (by rw [xz]; (clear z3 yz xz z2' l1 k1 hz hnb hna hsz; omega)) (by rw [yz]; (clear z3 yz xz l1 z1' k1 hz hnb hna hsz; omega)) f1 f2 b.kd g2 fun r st2 s3 mg gs g3 => ?_)
    refine kasC_bind (kasC_modify (kasC_bind (kasC_get (kasC_pure ?_))))
    exact fin r st2 s3 mg gs g3
  · rw [if_neg z3]
    refine kasC_bind (hi_ok H oo xa ya xm ym hxy (by rw [xz]; (clear z3 yz xz z2' l1 k1 hz hnb hna hsz; omega)) (by rw [yz]; (clear z3 yz xz l1 z1' k1 hz hnb hna hsz; omega)) f1 f2 b.kd g2 fun r st2 s3 mg gs g3 => ?_)
    refine kasC_bind (kasC_modify (kasC_bind (kasC_get (kasC_pure ?_))))
    exact fin r st2 s3 mg gs g3
end
end TSrt
set_option Elab.async false
set_option linter.all false
set_option maxRecDepth 100000
namespace TSrt
open PySem PySem.W PyProof.Rows
noncomputable def Cov (c : Keyed → Keyed → Bool) (ix : Keyed → Nat) (xs : Array Keyed) : List (Nat × Nat) → Nat → Nat → Prop
  | [], p, q => p = q
  | (st, len) :: r, p, q => st = p ∧ 0 < len ∧ Up c xs p (p + len) ∧ Loc ix xs p (p + len) ∧ Cov c ix xs r (p + len) q
theorem Cov.app {c : Keyed → Keyed → Bool} {ix : Keyed → Nat} {xs : Array Keyed} : ∀ {l m : List (Nat × Nat)} {p q : Nat}, Cov c ix xs (l ++ m) p q ↔ ∃ t, Cov c ix xs l p t ∧ Cov c ix xs m t q
  | [], m, p, q => ⟨fun h => ⟨p, rfl, h⟩, fun ⟨t, e, h⟩ => by cases e; exact h⟩
  | (st, len) :: l, m, p, q => by
    show (st = p ∧ 0 < len ∧ Up c xs p (p + len) ∧ Loc ix xs p (p + len) ∧ Cov c ix xs (l ++ m) (p + len) q) ↔ _
    rw [Cov.app]
    constructor
    · rintro ⟨h1, h2, h3, h0, t, h4, h5⟩; exact ⟨t, ⟨h1, h2, h3, h0, h4⟩, h5⟩
    · rintro ⟨t, ⟨h1, h2, h3, h0, h4⟩, h5⟩; exact ⟨h1, h2, h3, h0, t, h4, h5⟩
theorem Cov.le {c : Keyed → Keyed → Bool} {ix : Keyed → Nat} {xs : Array Keyed} : ∀ {l : List (Nat × Nat)} {p q : Nat}, Cov c ix xs l p q → p + l.length ≤ q
  | [], p, q, h => by cases h; simp
  | (st, len) :: l, p, q, h => by
    have := Cov.le h.2.2.2.2
    have := h.2.1
    rw [List.length_cons]; omega
theorem Cov.same {c : Keyed → Keyed → Bool} {ix : Keyed → Nat} {xs ys : Array Keyed} : ∀ {l : List (Nat × Nat)} {p q : Nat}, (∀ j, p ≤ j → j < q → ats ys j = ats xs j) → Cov c ix xs l p q → Cov c ix ys l p q
  | [], p, q, _, h => h
  | (st, len) :: l, p, q, e, h => by
    have h1 := Cov.le h.2.2.2.2
    refine ⟨h.1, h.2.1, fun i j z1 z2 z3 => ?_, fun j z1 z2 => ?_, Cov.same (fun j z1 z2 => e j (by omega) z2) h.2.2.2.2⟩
    · rw [e i z1 (by omega), e j (by omega) (by omega)]
      exact h.2.2.1 i j z1 z2 z3
    · rw [e j z1 (by omega)]; exact h.2.2.2.1 j z1 z2
noncomputable def two (x : Nat × Nat × Nat) : Nat × Nat := (x.1, x.2.1)
section
variable {M : Model} {A : Around} {E : Value → Shared → Prop} {κ : SortKind} {a0 : Array Keyed} {c0 c : Keyed → Keyed → Bool} {ix : Keyed → Nat} {G : Shared → Prop}
structure Ru (κ : SortKind) (a0 : Array Keyed) (c : Keyed → Keyed → Bool) (ix : Keyed → Nat) (st : SortSt) (q r : Nat) : Prop where
  sb : SB κ a0 st
  cov : Cov c ix (arrOf st) ((pendingOf st).toList.map two) 0 q
  raw : Raw ix (arrOf st) r
  le : q ≤ r
theorem small (p : Prop) [Decidable p] (m : Nat) (h : 1 < m) : (if p then m - 2 - 1 else m - 2) + 1 < m := by split <;> omega
theorem mstep (H : Cmp M A κ a0 c0 G) (oo : Od c0 c ix) {i q r0 : Nat} {st : SortSt} {s : Shared} {Q : Bool → SortSt → Shared → Prop} (r : Ru κ a0 c ix st q r0) (hq : q ≤ a0.size) (hi : i + 1 < (pendingOf st).size) (g : G s)
    (h : ∀ st' s', Ru κ a0 c ix st' q r0 → (pendingOf st').size + 1 = (pendingOf st).size → (∀ j, q ≤ j → ats (arrOf st') j = ats (arrOf st) j) → G s' → Q true st' s') : kasC M A E (mergeAt' i) Q st s := by
  obtain ⟨b, cov, raw, rle⟩ := r
  have hz0 := b.sz
  have hl : i + 1 < (pendingOf st).toList.length := by simpa using hi
  obtain ⟨⟨sa, na, pw⟩, e1⟩ : ∃ x, (pendingOf st)[i] = x := ⟨_, rfl⟩
  obtain ⟨⟨sb, nb, pv⟩, e2⟩ : ∃ x, (pendingOf st)[i + 1] = x := ⟨_, rfl⟩
  have q1 : (pendingOf st)[i]? = some (sa, na, pw) := by rw [getElem?_pos _ i (by omega), e1]
  have q2 : (pendingOf st)[i + 1]? = some (sb, nb, pv) := by rw [getElem?_pos _ (i + 1) hi, e2]
  have sp : (pendingOf st).toList = (pendingOf st).toList.take i ++ (sa, na, pw) :: (sb, nb, pv) :: (pendingOf st).toList.drop (i + 2) := by
    conv => lhs; rw [← List.take_append_drop i (pendingOf st).toList, List.drop_eq_getElem_cons (by omega), List.drop_eq_getElem_cons (by omega)]
    rw [Array.getElem_toList, Array.getElem_toList, e1, e2]
  rw [sp, List.map_append, Cov.app] at cov
  obtain ⟨t, c1, h1, c2, c3, c3l, h2, c4, c5, c5l, c6⟩ := cov
  have h1 : sa = t := h1
  subst h1
  have h2 : sb = sa + na := h2
  subst h2
  have c3 : Up c (arrOf st) sa (sa + na) := c3
  have c5 : Up c (arrOf st) (sa + na) (sa + na + nb) := c5
  have c6 : Cov c ix (arrOf st) (((pendingOf st).toList.drop (i + 2)).map two) (sa + na + nb) q := c6
  have c6' : sa + na + nb + _ ≤ q := c6.le
  have c1' := c1.le
  have c2' : 0 < na := c2
  have c4' : 0 < nb := c4
  refine at_ok H oo b q1 q2 rfl (by omega) c2 c4 c3 c5 c3l c5l g fun st' s' b' pe up lc ke g' => ?_
  have pl : (pendingOf st').toList = (pendingOf st).toList.take i ++ (sa, na + nb, pw) :: (pendingOf st).toList.drop (i + 2) := by
    rw [pe, Array.toList_eraseIdxIfInBounds, Array.toList_setIfInBounds]
    conv => lhs; rw [sp]
    have hli : ((pendingOf st).toList.take i).length = i := by simp; omega
    rw [List.set_append_right _ _ (by omega), hli, Nat.sub_self, List.set_cons_zero, List.eraseIdx_append_of_length_le (by omega), hli, show i + 1 - i = 1 by omega]
    rfl
  refine h st' s' ⟨b', ?_, fun j z1 z2 => by rw [ke j (.inr (by omega))]; exact raw j z1 (Nat.lt_of_lt_of_le z2 (Nat.le_of_eq (b'.sz.trans hz0.symm))), rle⟩ ?_ (fun j hj => ke j (.inr (by omega))) g'
  · rw [pl, List.map_append, Cov.app]
    refine ⟨sa, Cov.same (fun j z1 z2 => ke j (.inl z2)) c1, rfl, (show 0 < na + nb by omega), ?_, ?_, ?_⟩
    · show Up c (arrOf st') sa (sa + (na + nb))
      rw [← Nat.add_assoc]; exact up
    · show Loc ix (arrOf st') sa (sa + (na + nb))
      rw [← Nat.add_assoc]; exact lc
    · show Cov c ix (arrOf st') _ (sa + (na + nb)) q
      rw [← Nat.add_assoc]
      exact Cov.same (fun j z1 z2 => ke j (.inr z1)) c6
  · have z1 := congrArg List.length pl
    have z2 := congrArg List.length sp
    simp only [List.length_append, List.length_cons, Array.length_toList] at z1 z2
    omega
theorem Ru.more {st : SortSt} {lo n k : Nat} (r : Ru κ a0 c ix st lo (lo + n)) (h1 : 1 ≤ n) (up : Up c (arrOf st) lo (lo + n)) (lc : Loc ix (arrOf st) lo (lo + n)) : Ru κ a0 c ix (setPending st ((pendingOf st).push (lo, n, k))) (lo + n) (lo + n) := by
  refine ⟨⟨r.sb.pm, r.sb.kd, r.sb.fd⟩, ?_, r.raw, Nat.le_refl _⟩
  show Cov c ix (arrOf st) (((pendingOf st).push (lo, n, k)).toList.map two) 0 (lo + n)
  rw [Array.toList_push, List.map_append, Cov.app]
  exact ⟨lo, r.cov, rfl, h1, up, lc, rfl⟩
theorem Ru.pow {st : SortSt} {lo i r0 : Nat} {f : Nat × Nat × Nat → Nat × Nat × Nat} (hf : ∀ x, two (f x) = two x) (r : Ru κ a0 c ix st lo r0) : Ru κ a0 c ix (setPending st ((pendingOf st).modify i f)) lo r0 := by
  refine ⟨⟨r.sb.pm, r.sb.kd, r.sb.fd⟩, ?_, r.raw, r.le⟩
  show Cov c ix (arrOf st) (((pendingOf st).modify i f).toList.map two) 0 lo
  have e : ((pendingOf st).modify i f).toList.map two = (pendingOf st).toList.map two := by
    rw [Array.toList_modify]
    apply List.ext_getElem?
    intro j
    rw [List.getElem?_map, List.getElem?_map, List.getElem?_modify]
    cases (pendingOf st).toList[j]? with
    | none => rfl
    | some x =>
      show some (two (if i = j then f x else x)) = some (two x)
      by_cases e : i = j
      · rw [if_pos e, hf]
      · rw [if_neg e]
  rw [e]
  exact r.cov
theorem runs_ok (H : Cmp M A κ a0 c0 G) (oo : Od c0 c ix) {st : SortSt} {s : Shared} {Q : Unit → SortSt → Shared → Prop} (b : SB κ a0 st) (pe : pendingOf st = #[]) (ra : Raw ix (arrOf st) 0) (g : G s)
    (h : ∀ st' s', SB κ a0 st' → Up c (arrOf st') 0 a0.size → G s' → Q () st' s') : kasC M A E sortRuns' Q st s := by
  rw [sortRuns'_eq]
  refine kasC_bind (kasC_get ?_)
  dsimp only
  rw [b.sz]
  -- behind a run that was found
  refine kasC_bind (kasC_mono (Q := fun d st' s' => d = (none, a0.size) ∧ Ru κ a0 c ix st' a0.size a0.size ∧ G s') (kasC_rg (fun x d st' s' => ∃ lo, d = (none, lo) ∧ x ≤ lo ∧ lo ≤ a0.size ∧ Ru κ a0 c ix st' lo lo ∧ G s') ?_ ?_ ?_) ?_)
  · rintro x _ st1 s1 _ hx ⟨lo, rfl, x1, x2, r1, g1⟩
    dsimp only
    by_cases z : lo ≥ a0.size
    · rw [if_pos z]
      have : lo = a0.size := by omega
      subst this
      exact kasC_pure ⟨rfl, r1, g1⟩
    rw [if_neg z]
    refine kasC_bind (count_ok H oo (by omega) (by omega) r1.sb r1.raw g1 fun n st2 s2 n1 n2 b2 p2 up2 lc2 rw2 ke2 g2 => ?_)
    have c2 : Cov c ix (arrOf st2) ((pendingOf st2).toList.map two) 0 lo := by rw [p2]; exact Cov.same (fun j _ z2 => ke2 j z2) r1.cov
    dsimp only
    by_cases zm : n < minRun' a0.size a0.size 0
    · rw [if_pos zm]
      refine kasC_bind (kasC_lift (wpAny_rule ?_))
      have hf : n ≤ min (a0.size - lo) (minRun' a0.size a0.size 0) := by omega
      refine kasC_bind (bin_ok H oo (by omega) hf b2 up2 lc2 rw2 g2 fun st3 s3 b3 p3 ux lx wx ke3 gx => ?_)
      have rx : Ru κ a0 c ix st3 lo (lo + min (a0.size - lo) (minRun' a0.size a0.size 0)) := ⟨b3, by rw [p3]; exact Cov.same (fun j _ z2 => ke3 j z2) c2, wx, by omega⟩
      rw [if_neg (by simp)]
      refine kasC_bind (kasC_get ?_)
      split
      · rename_i s1' n1' k1' _
        refine kasC_bind (kasC_mono (Q := fun d st' s' => d = (none, ()) ∧ Ru κ a0 c ix st' lo (lo + min (a0.size - lo) (minRun' a0.size a0.size 0)) ∧ (∀ j, lo ≤ j → ats (arrOf st') j = ats (arrOf st3) j) ∧ G s') (kasC_rg (fun x d st' s' => d = (none, ()) ∧ Ru κ a0 c ix st' lo (lo + min (a0.size - lo) (minRun' a0.size a0.size 0)) ∧ (∀ j, lo ≤ j → ats (arrOf st') j = ats (arrOf st3) j) ∧ G s') ?_ (fun _ _ _ z => z) ⟨rfl, rx, fun _ _ => rfl, gx⟩) ?_)
        · rintro y _ st4 s4 _ hy ⟨rfl, r4, ke4, g4⟩
          refine kasC_bind (kasC_get ?_)
          split
          · rename_i hsome
            split
            · exact kasC_pure ⟨rfl, r4, ke4, g4⟩
            · have hp : (pendingOf st4).size > 1 := by
                rcases Nat.lt_or_ge 1 (pendingOf st4).size with w | w
                · exact w
                · rw [if_neg (by omega)] at hsome; exact absurd hsome (by simp)
              refine kasC_bind (mstep H oo r4 x2 (by omega) g4 fun st5 s5 r5 _ ke5 g5 => ?_)
              rw [if_neg (by simp)]
              exact kasC_pure ⟨rfl, r5, fun j hj => (ke5 j hj).trans (ke4 j hj), g5⟩
          · exact kasC_pure ⟨rfl, r4, ke4, g4⟩
        · rintro _ st4 s4 ⟨rfl, r4, ke4, g4⟩
          dsimp only
          refine kasC_bind (kasC_modify (kasC_bind (kasC_modify (kasC_pure ?_))))
          refine ⟨_, rfl, by omega, by omega, Ru.more (Ru.pow (fun x => rfl) r4) (show 1 ≤ min (a0.size - lo) (minRun' a0.size a0.size 0) by omega) (fun i j z1 z2 z3 => ?_) (fun j z1 z2 => ?_), g4⟩
          · show c (ats (arrOf st4) j) (ats (arrOf st4) i) = false
            rw [ke4 i z1, ke4 j (by omega)]
            exact ux i j z1 z2 z3
          · show lo ≤ ix (ats (arrOf st4) j) ∧ ix (ats (arrOf st4) j) < _
            rw [ke4 j z1]
            exact lx j z1 z2
      · refine kasC_bind (kasC_modify (kasC_pure ?_))
        exact ⟨_, rfl, by omega, by omega, Ru.more rx (show 1 ≤ min (a0.size - lo) (minRun' a0.size a0.size 0) by omega) ux lx, gx⟩
    · rw [if_neg zm]
      have rx : Ru κ a0 c ix st2 lo (lo + n) := ⟨b2, c2, rw2, by omega⟩
      have lx := lc2
      have ux := up2
      have gx := g2
      refine kasC_bind (kasC_get ?_)
      split
      · rename_i s1' n1' k1' _
        refine kasC_bind (kasC_mono (Q := fun d st' s' => d = (none, ()) ∧ Ru κ a0 c ix st' lo (lo + n) ∧ (∀ j, lo ≤ j → ats (arrOf st') j = ats (arrOf st2) j) ∧ G s') (kasC_rg (fun x d st' s' => d = (none, ()) ∧ Ru κ a0 c ix st' lo (lo + n) ∧ (∀ j, lo ≤ j → ats (arrOf st') j = ats (arrOf st2) j) ∧ G s') ?_ (fun _ _ _ z => z) ⟨rfl, rx, fun _ _ => rfl, gx⟩) ?_)
        · rintro y _ st4 s4 _ hy ⟨rfl, r4, ke4, g4⟩
          refine kasC_bind (kasC_get ?_)
          split
          · rename_i hsome
            split
            · exact kasC_pure ⟨rfl, r4, ke4, g4⟩
            · have hp : (pendingOf st4).size > 1 := by
                rcases Nat.lt_or_ge 1 (pendingOf st4).size with w | w
                · exact w
                · rw [if_neg (by omega)] at hsome; exact absurd hsome (by simp)
              refine kasC_bind (mstep H oo r4 x2 (by omega) g4 fun st5 s5 r5 _ ke5 g5 => ?_)
              rw [if_neg (by simp)]
              exact kasC_pure ⟨rfl, r5, fun j hj => (ke5 j hj).trans (ke4 j hj), g5⟩
          · exact kasC_pure ⟨rfl, r4, ke4, g4⟩
        · rintro _ st4 s4 ⟨rfl, r4, ke4, g4⟩
          dsimp only
          refine kasC_bind (kasC_modify (kasC_bind (kasC_modify (kasC_pure ?_))))
          refine ⟨_, rfl, by omega, by omega, Ru.more (Ru.pow (fun x => rfl) r4) n1 (fun i j z1 z2 z3 => ?_) (fun j z1 z2 => ?_), g4⟩
          · show c (ats (arrOf st4) j) (ats (arrOf st4) i) = false
            rw [ke4 i z1, ke4 j (by omega)]
            exact ux i j z1 z2 z3
          · show lo ≤ ix (ats (arrOf st4) j) ∧ ix (ats (arrOf st4) j) < _
            rw [ke4 j z1]
            exact lx j z1 z2
      · refine kasC_bind (kasC_modify (kasC_pure ?_))
        exact ⟨_, rfl, by omega, by omega, Ru.more rx n1 ux lx, gx⟩
  · rintro _ st1 s1 ⟨lo, rfl, x1, x2, r1, g1⟩
    have : lo = a0.size := by omega
    subst this
    exact ⟨rfl, r1, g1⟩
  · exact ⟨0, rfl, Nat.le_refl _, Nat.zero_le _, ⟨b, by rw [pe]; rfl, ra, Nat.le_refl _⟩, g⟩
  · rintro _ st1 s1 ⟨rfl, r1, g1⟩
    dsimp only
    refine kasC_bind (kasC_mono (Q := fun d st' s' => d = (none, ()) ∧ (pendingOf st').size ≤ 1 ∧ Ru κ a0 c ix st' a0.size a0.size ∧ G s') (kasC_rg (fun x d st' s' => d = (none, ()) ∧ ((pendingOf st').size ≤ 1 ∨ (pendingOf st').size + x ≤ a0.size) ∧ Ru κ a0 c ix st' a0.size a0.size ∧ G s') ?_ ?_ ?_) ?_)
    · rintro x _ st2 s2 _ hx ⟨rfl, x1, r2, g2⟩
      refine kasC_bind (kasC_get ?_)
      by_cases z : (pendingOf st2).size ≤ 1
      · rw [if_pos z]
        exact kasC_pure ⟨rfl, z, r2, g2⟩
      rw [if_neg z]
      refine kasC_bind (mstep H oo r2 (Nat.le_refl _) (small _ _ (by omega)) g2 fun st3 s3 r3 z3 _ g3 => ?_)
      rw [if_neg (by simp)]
      exact kasC_pure ⟨rfl, by omega, r3, g3⟩
    · rintro _ st2 s2 ⟨rfl, x1, r2, g2⟩
      exact ⟨rfl, by omega, r2, g2⟩
    · refine ⟨rfl, ?_, r1, g1⟩
      have := r1.cov.le
      rw [List.length_map, Array.length_toList] at this
      omega
    · rintro _ st2 s2 ⟨rfl, x1, r2, g2⟩
      refine kasC_pure (h st2 s2 r2.sb ?_ g2)
      have cv := r2.cov
      cases e : (pendingOf st2).toList with
      | nil =>
        rw [e] at cv
        have : 0 = a0.size := cv
        intro i j _ _ z; omega
      | cons y l =>
        cases l with
        | nil =>
          rw [e] at cv
          obtain ⟨_, _, u, _, w⟩ := cv
          have w : 0 + y.2.1 = a0.size := w
          rw [← w]; exact u
        | cons y' l =>
          have := congrArg List.length e
          rw [Array.length_toList] at this
          simp at this; omega
end
end TSrt
set_option Elab.async false
set_option linter.all false
set_option maxRecDepth 100000
namespace TSrt
open PySem PySem.W PyProof.Rows
structure Swk {κ : Type} (lt : κ → κ → Bool) : Prop where
  asym : ∀ {x y}, lt x y = true → lt y x = false
  tr : ∀ {x y z}, lt y x = false → lt z y = false → lt z x = false
noncomputable def cN {κ : Type} (lt : κ → κ → Bool) (ks : Nat → κ) (i j : Nat) : Bool := lt (ks i) (ks j) || (!(lt (ks j) (ks i)) && decide (i < j))
theorem cN_tr {κ : Type} {lt : κ → κ → Bool} (o : Swk lt) {ks : Nat → κ} {x y z : Nat} (h1 : cN lt ks y x = false) (h2 : cN lt ks z y = false) : cN lt ks z x = false := by
  unfold cN at *
  simp only [Bool.or_eq_false_iff, Bool.and_eq_false_iff, Bool.not_eq_false', decide_eq_false_iff_not, Nat.not_lt] at *
  refine ⟨o.tr h1.1 h2.1, ?_⟩
  cases e : lt (ks x) (ks z) with
  | true => exact .inl rfl
  | false =>
    right
    have e1 : lt (ks x) (ks y) = false := o.tr h2.1 e
    have e2 : lt (ks y) (ks z) = false := o.tr e h1.1
    rw [e1] at h1; rw [e2] at h2
    have a1 := h1.2.resolve_left (by simp)
    have a2 := h2.2.resolve_left (by simp)
    omega
theorem cN_asym {κ : Type} {lt : κ → κ → Bool} (o : Swk lt) {ks : Nat → κ} {x y : Nat} (h : cN lt ks x y = true) : cN lt ks y x = false := by
  unfold cN at *
  simp only [Bool.or_eq_true, Bool.and_eq_true, Bool.not_eq_true', decide_eq_true_eq, Bool.or_eq_false_iff, Bool.and_eq_false_iff, Bool.not_eq_false', decide_eq_false_iff_not, Nat.not_lt] at *
  rcases h with h | ⟨h1, h2⟩
  · exact ⟨o.asym h, .inl h⟩
  · exact ⟨h1, .inr (by omega)⟩
theorem cN_anti {κ : Type} {lt : κ → κ → Bool} {ks : Nat → κ} {x y : Nat} (h1 : cN lt ks x y = false) (h2 : cN lt ks y x = false) : x = y := by
  unfold cN at *
  simp only [Bool.or_eq_false_iff, Bool.and_eq_false_iff, Bool.not_eq_false', decide_eq_false_iff_not, Nat.not_lt] at *
  have a1 := h1.2.resolve_left (by rw [h2.1]; simp)
  have a2 := h2.2.resolve_left (by rw [h1.1]; simp)
  omega
noncomputable def srt {κ : Type} (lt : κ → κ → Bool) (ks : Nat → κ) (n : Nat) : List Nat := (List.range n).mergeSort fun i j => !(cN lt ks j i)
theorem srt_perm {κ : Type} (lt : κ → κ → Bool) (ks : Nat → κ) (n : Nat) : (srt lt ks n).Perm (List.range n) := List.mergeSort_perm ..
theorem srt_asc {κ : Type} {lt : κ → κ → Bool} (o : Swk lt) (ks : Nat → κ) (n : Nat) : (srt lt ks n).Pairwise fun i j => cN lt ks j i = false := by
  have := List.pairwise_mergeSort (le := fun i j => !(cN lt ks j i)) (fun a b c h1 h2 => by simp only [Bool.not_eq_true'] at *; exact cN_tr o h1 h2) (fun a b => by
    cases e : cN lt ks b a with
    | false => simp
    | true => simp [cN_asym o e]) (List.range n)
  exact this.imp fun h => by simpa using h
theorem srt_uniq {κ : Type} {lt : κ → κ → Bool} (o : Swk lt) {ks : Nat → κ} {n : Nat} {l : List Nat} (hp : l.Perm (List.range n)) (ha : l.Pairwise fun i j => cN lt ks j i = false) : l = srt lt ks n :=
  List.Perm.eq_of_pairwise (fun a b _ _ h1 h2 => cN_anti h2 h1) ha (srt_asc o ks n) (hp.trans (srt_perm lt ks n).symm)
noncomputable def ixOf (vs : List Value) (x : Keyed) : Nat := Classical.epsilon fun i => vs[i]? = some x.2
theorem ixOf_at {vs : List Value} (nd : vs.Nodup) {x : Keyed} {i : Nat} (h : vs[i]? = some x.2) : ixOf vs x = i := by
  have e : vs[ixOf vs x]? = some x.2 := Classical.epsilon_spec (p := fun i => vs[i]? = some x.2) ⟨i, h⟩
  have hi := (List.getElem?_eq_some_iff.mp h).1
  exact ((List.getElem?_inj hi nd).mp (h.trans e.symm)).symm
section
variable {M : Model} {A : Around} {E : Value → Shared → Prop} {κ : SortKind} {G : Shared → Prop} {κt : Type} {lt : κt → κt → Bool} {ks : Nat → κt} {kvs vs : List Value}
theorem srt_runs (ok : Swk lt) (hl : kvs.length = vs.length) (nd : vs.Nodup)
    (cmp : ∀ i j, i < vs.length → j < vs.length → ∀ s, G s → wpAny M A (keyLt' κ (kvs.getD i .none) (kvs.getD j .none)) (fun b s' => b = lt (ks i) (ks j) ∧ G s') (fun _ _ => False) s) {s : Shared} (g : G s) {Q : Unit → SortSt → Shared → Prop}
    (q : ∀ st' s', failedOf st' = none → (arrOf st').map (·.2) = ((srt lt ks vs.length).map fun i => vs.getD i .none).toArray → G s' → Q () st' s') :
    kasC M A E sortRuns' Q (SortSt.mk' κ (kvs.toArray.zip vs.toArray) #[] 7 none) s := by
  have hz : (kvs.toArray.zip vs.toArray).size = vs.length := by simp [hl]
  have at_ : ∀ i, i < vs.length → (kvs.toArray.zip vs.toArray)[i]? = some (kvs.getD i .none, vs.getD i .none) := fun i hi => by
    have := kat_item hl (ks := kvs) (vs := vs) i
    unfold kas_item at this
    have h' : i < (kvs.toArray.zip vs.toArray).size := by omega
    rw [← this, Array.getElem?_eq_getElem h', Array.getD, dif_pos h']
    rfl
  have ixa : ∀ i, i < vs.length → ixOf vs (kvs.getD i .none, vs.getD i .none) = i := fun i hi => ixOf_at nd (by simp [hi])
  have mem : ∀ x, x ∈ (kvs.toArray.zip vs.toArray).toList → ∃ i, i < vs.length ∧ x = (kvs.getD i .none, vs.getD i .none) := fun x hx => by
    obtain ⟨i, hi⟩ := List.mem_iff_getElem?.mp hx
    rw [Array.getElem?_toList] at hi
    have hlt : i < vs.length := by
      rcases Nat.lt_or_ge i vs.length with z | z
      · exact z
      · rw [Array.getElem?_eq_none (by omega)] at hi; cases hi
    rw [at_ i hlt] at hi
    cases hi
    exact ⟨i, hlt, rfl⟩
  have oo : Od (fun x y => lt (ks (ixOf vs x)) (ks (ixOf vs y))) (fun x y => cN lt ks (ixOf vs x) (ixOf vs y)) (ixOf vs) :=
    ⟨⟨fun h => ok.asym h, fun h1 h2 => ok.tr h1 h2⟩, ⟨fun h => cN_asym ok h, fun h1 h2 => cN_tr ok h1 h2⟩, fun {x y} h => by
      have : decide (ixOf vs x < ixOf vs y) = false := by simp; omega
      simp [cN, this], fun {x y} h => by simp [cN, h], fun {x y} h1 h2 h3 => by simp [cN, h1, h2, h3]⟩
  refine runs_ok (κ := κ) (a0 := kvs.toArray.zip vs.toArray) (G := G) (fun x y hx hy s g => ?_) oo (st := SortSt.mk' κ (kvs.toArray.zip vs.toArray) #[] 7 none) ⟨Array.Perm.refl _, rfl, rfl⟩ rfl (fun j _ hj => ?_) g fun st' s' b up g' => ?_
  · obtain ⟨i, hi, rfl⟩ := mem x hx
    obtain ⟨j, hj, rfl⟩ := mem y hy
    have := cmp i j hi hj s g
    rw [← ixa i hi, ← ixa j hj] at this
    rw [ixa i hi, ixa j hj] at this ⊢
    exact this
  · have hj' : j < vs.length := by
      have : j < (kvs.toArray.zip vs.toArray).size := hj
      omega
    show ixOf vs (ats (kvs.toArray.zip vs.toArray) j) = j
    unfold ats
    rw [at_ j hj']
    exact ixa j hj'
  · refine q st' s' b.fd ?_ g'
    have pm := Array.perm_iff_toList_perm.mp b.pm
    have e0 : (kvs.toArray.zip vs.toArray).toList = (List.range vs.length).map fun i => (kvs.getD i .none, vs.getD i .none) := by
      apply List.ext_getElem?
      intro i
      rw [Array.getElem?_toList, List.getElem?_map]
      by_cases hi : i < vs.length
      · rw [at_ i hi, List.getElem?_range hi]; rfl
      · rw [Array.getElem?_eq_none (by omega), List.getElem?_eq_none (by simp; omega)]; rfl
    have e1 : (kvs.toArray.zip vs.toArray).toList.map (ixOf vs) = List.range vs.length := by
      rw [e0, List.map_map]
      conv => rhs; rw [← List.map_id (List.range vs.length)]
      exact List.map_congr_left fun i hi => ixa i (List.mem_range.mp hi)
    have hp : ((arrOf st').toList.map (ixOf vs)).Perm (List.range vs.length) := by rw [← e1]; exact pm.map _
    have ha : ((arrOf st').toList.map (ixOf vs)).Pairwise fun i j => cN lt ks j i = false := by
      rw [List.pairwise_map]
      refine List.pairwise_iff_getElem.mpr fun i j hi hj hij => ?_
      have hj' : j < (kvs.toArray.zip vs.toArray).size := by rw [← b.sz]; simpa using hj
      have := up i j (Nat.zero_le _) (by omega) hj'
      rw [ats_ge, ats_ge, List.getElem?_eq_getElem hi, List.getElem?_eq_getElem hj] at this
      exact this
    rw [← srt_uniq ok hp ha, List.map_map]
    apply Array.toList_inj.mp
    rw [Array.toList_map]
    refine List.map_congr_left fun x hx => ?_
    obtain ⟨i, hi, rfl⟩ := mem x (pm.mem_iff.mp hx)
    show vs.getD i .none = vs.getD (ixOf vs (kvs.getD i .none, vs.getD i .none)) .none
    rw [ixa i hi]
end
end TSrt
set_option Elab.async false
set_option linter.all false
set_option maxRecDepth 100000
namespace TSrt
open PySem PySem.W PyProof.Rows PySem.Calls
noncomputable def ltI (x y : Int) : Bool := decide (x < y)
theorem swI : Swk ltI := ⟨fun {x y} h => by simp only [ltI, decide_eq_true_eq, decide_eq_false_iff_not] at *; omega, fun {x y z} h1 h2 => by simp only [ltI, decide_eq_false_iff_not] at *; omega⟩
theorem srt_lt {κ : Type} {lt : κ → κ → Bool} {ks : Nat → κ} {n i : Nat} (h : i ∈ srt lt ks n) : i < n := List.mem_range.mp ((srt_perm lt ks n).mem_iff.mp h)
noncomputable def srtB {κ : Type} (lt : κ → κ → Bool) (b : Bool) (ks : Nat → κ) (n : Nat) : List Nat := if b then ((srt lt (fun i => ks (n - 1 - i)) n).map (fun i => n - 1 - i)).reverse else srt lt ks n
theorem srtB_lt {κ : Type} {lt : κ → κ → Bool} {b : Bool} {ks : Nat → κ} {n i : Nat} (h : i ∈ srtB lt b ks n) : i < n := by
  unfold srtB at h
  split at h
  · obtain ⟨j, hj, rfl⟩ := List.mem_map.mp (List.mem_reverse.mp h)
    have := srt_lt hj; omega
  · exact srt_lt h
noncomputable def ksB {κ : Type} (b : Bool) (ks : Nat → κ) (n i : Nat) : κ := if b then ks (n - 1 - i) else ks i
theorem getD_rev {its : List Value} {i : Nat} (h : i < its.length) : its.reverse.getD i .none = its.getD (its.length - 1 - i) .none := by
  simp [List.getD, List.getElem?_reverse h]
theorem srtB_out {κ : Type} {lt : κ → κ → Bool} {b : Bool} {ks : Nat → κ} {its : List Value} : katRev b ((srt lt (ksB b ks its.length) its.length).map fun i => (katRev b its).getD i .none) = (srtB lt b ks its.length).map fun i => its.getD i .none := by
  cases b with
  | false => rfl
  | true =>
    show ((srt lt (fun i => ks (its.length - 1 - i)) its.length).map fun i => its.reverse.getD i .none).reverse = (((srt lt (fun i => ks (its.length - 1 - i)) its.length).map (fun i => its.length - 1 - i)).reverse).map fun i => its.getD i .none
    rw [← List.map_reverse, ← List.map_reverse, List.map_map]
    exact List.map_congr_left fun i hi => getD_rev (srt_lt (List.mem_reverse.mp hi))
theorem srt_small {κ : Type} {lt : κ → κ → Bool} {ks : Nat → κ} {n : Nat} (h : n < 2) : srt lt ks n = List.range n := by
  match n, h with
  | 0, _ => simp [srt]
  | 1, _ => simp [srt, List.range_succ]
theorem range_getD (l : List Value) : (List.range l.length).map (fun i => l.getD i .none) = l := by
  apply List.ext_getElem?
  intro i
  rw [List.getElem?_map]
  by_cases h : i < l.length
  · rw [List.getElem?_range h]; simp [h]
  · rw [List.getElem?_eq_none (by simp; omega), List.getElem?_eq_none (by omega)]; rfl
section
variable {prog : Program} {w : World} {A : Around} {E : Value → Shared → Prop} {s : Shared} {l q : Addr} {its : List Value} {b : Bool} {ks : Nat → Int}
theorem key_end {P : PySem.Fin → Shared → Prop} {D kS : Addr} {kvs : List Value} {e e1 : Nat} (nd : its.Nodup) (hz : its.length ≤ 1000000) (hl : kvs.length = its.length) (hk : ∀ j, j < its.length → ∃ t, kvs.getD j .none = .int (ks j) t)
    (ne : D ≠ kS) (h1 : s.heap.get? kS = some (seqObj "list" kvs.toArray e)) (h2 : s.heap.get? D = some (seqObj "list" #[] e1))
    (fin : ∀ h' c, (∀ x o, x ≠ kS → x ≠ D → s.heap.get? x = some o → h'.get? x = some o) → h'.get? D = some (seqObj "list" ((srtB ltI b ks its.length).map fun i => its.getD i .none).toArray c) → P (.done (.ret .none)) { s with heap := h' }) :
    wpAny (model prog w) A (ksk_end D b its.toArray e1 (.ref kS) kvs.toArray) P E s := by
  have iA : IntsAre kvs ((List.range its.length).map ks) := by
    have go : ∀ (r : List Value) (m : Nat), (∀ j, j < r.length → ∃ t, r.getD j .none = .int (ks (m + j)) t) → IntsAre r ((List.range' m r.length).map ks) := by
      intro r
      induction r with
      | nil => intro m _; exact .nil
      | cons v r ih =>
        intro m h
        obtain ⟨t, e⟩ := h 0 (by simp)
        have e' : v = .int (ks m) t := e
        subst e'
        rw [List.length_cons, List.range'_succ, List.map_cons]
        exact .cons _ t (ih (m + 1) fun j hj => by
          obtain ⟨t, e⟩ := h (j + 1) (by simpa using hj)
          exact ⟨t, by rw [show m + 1 + j = m + (j + 1) by omega]; exact e⟩)
    have := go kvs 0 fun j hj => by rw [Nat.zero_add]; exact hk j (by omega)
    rwa [hl, ← List.range_eq_range'] at this
  have tail : ∀ st : SortSt, failedOf st = none → (arrOf st).map (·.2) = ((srt ltI (ksB b ks its.length) its.length).map fun i => (katRev b its).getD i .none).toArray → wpAny (model prog w) A (ksk_tail D b e1 (.ref kS) st) P E s := fun st hf hout => by
    have s1 := Heap.SameBut.update s.heap kS (Obj.mapSeq fun _ => (#[] : Array Value))
    have na := (s1.2 D ne).trans h2
    unfold ksk_tail
    try dsimp only
    rw [hout, kat_outs, srtB_out]
    have hlen : ((srtB ltI b ks its.length).map fun i => its.getD i .none).length = its.length := by
      rw [← srtB_out, kat_len, List.length_map, (srt_perm ..).length_eq, List.length_range]
    obtain ⟨c2, hc2⟩ : ∃ c2, ((s.heap.update kS (Obj.mapSeq fun _ => (#[] : Array Value))).update D (Obj.mapSeq fun _ => ((srtB ltI b ks its.length).map fun i => its.getD i .none).toArray)).get? D = some (seqObj "list" ((srtB ltI b ks its.length).map fun i => its.getD i .none).toArray c2) := ⟨_, get?_update_seq na fun _ => _⟩
    have s2 := Heap.SameBut.update (s.heap.update kS (Obj.mapSeq fun _ => (#[] : Array Value))) D (Obj.mapSeq fun _ => ((srtB ltI b ks its.length).map fun i => its.getD i .none).toArray)
    refine wpAny_bind (listUpdate_at h1 rfl (wpAny_bind (wpAny_letGo (wpAny_bind (seqEpoch_at na rfl ?_)))) (by rw [List.size_toArray, sizeLine_eq]; omega) (Nat.zero_le _))
    refine wpAny_bind (listUpdate_at na rfl ?_ (Nat.zero_le _) (by rw [List.size_toArray, hlen, sizeLine_eq]; omega))
    rw [hf]
    simp only [bne_self_eq_false, Bool.false_eq_true, if_false]
    exact wpAny_pure (fin _ c2 (fun x o x1 x2 ho => (s2.2 x x2).trans ((s1.2 x x1).trans ho)) hc2)
  have step : ∀ t : Sem PySem.Fin, wpAny (model prog w) A t P E s → wpAny (model prog w) A (if b = true then rule "list.sort.reverse" >>= fun _ => t else t) P E s := fun t ht => by
    split
    · exact wpAny_bind (wpAny_rule ht)
    · exact ht
  unfold ksk_end
  try dsimp only
  refine step _ ?_
  rw [kat_pairs b hl]
  have hlr : (katRev b kvs).length = (katRev b its).length := by rw [kat_len, kat_len, hl]
  by_cases hs : its.toArray.size < 2
  · rw [if_pos hs, if_pos hs]
    rw [List.size_toArray] at hs
    refine wpAny_bind (wpAny_pure ?_)
    rw [StateT.run_pure]
    refine wpAny_bind (wpAny_pure (tail _ rfl ?_))
    show (((katRev b kvs).toArray.zip (katRev b its).toArray).map (·.2)) = _
    rw [srt_small hs]
    conv => rhs; rw [show its.length = (katRev b its).length from (kat_len ..).symm, range_getD]
    apply Array.toList_inj.mp
    rw [Array.toList_map, ksk_zip]
    exact List.map_snd_zip (by rw [hlr]; exact Nat.le_refl _)
  · rw [if_neg hs, if_neg hs, ksk_kind (kz := (List.range its.length).map ks) (by simpa using iA) (by rw [List.size_toArray] at *; omega)]
    refine wpAny_bind (wpAny_pure ?_)
    refine wpAny_bind (wpAny_mono (srt_runs (lt := ltI) (ks := ksB b ks its.length) (κ := oneType') (G := fun s' => s' = s) swI hlr ?_ (fun i j hi hj s' g => ?_) rfl (Q := fun _ st' s' => failedOf st' = none ∧ (arrOf st').map (·.2) = ((srt ltI (ksB b ks its.length) its.length).map fun i => (katRev b its).getD i .none).toArray ∧ s' = s) fun st' s' z1 z2 z3 => ⟨z1, by rw [kat_len] at z2; exact z2, z3⟩) (fun r s' z => ?_) fun _ _ z => z)
    · unfold katRev; split
      · exact List.pairwise_reverse.mpr (List.Pairwise.imp (fun h => Ne.symm h) nd)
      · exact nd
    · subst g
      rw [kat_len] at hi hj
      have at_ : ∀ i, i < its.length → ∃ t, (katRev b kvs).getD i .none = .int (ksB b ks its.length i) t := fun i hi => by
        cases b with
        | false => exact hk i hi
        | true =>
          show ∃ t, kvs.reverse.getD i .none = .int (ks (its.length - 1 - i)) t
          rw [getD_rev (by omega), hl]
          exact hk _ (by omega)
      obtain ⟨t1, e1⟩ := at_ i hi
      obtain ⟨t2, e2⟩ := at_ j hj
      rw [e1, e2]
      exact kat_lt_int ⟨rfl, rfl⟩
    · obtain ⟨⟨⟩, st⟩ := r
      obtain ⟨z1, z2, z3⟩ := z
      have z3 : s' = s := z3
      subst z3
      exact tail st z1 z2
theorem shell_key {Q : Value → Shared → Prop} (hl : s.heap.IsList l its.toArray) (hz : its.length ≤ 1000000) (nd : its.Nodup) (J : Nat → Addr → Addr → Shared → Prop)
    (j0 : ∀ D kS h', s.heap.objs.size ≤ D → D < kS → (∀ x o, s.heap.get? x = some o → h'.get? x = some o) → J 0 D kS { s with heap := h' })
    (jt : ∀ i D kS u s' ok od, its[i]? = some u → J i D kS s' → s'.heap.get? kS = some ok → s'.heap.get? D = some od →
      wpAny (model prog w) A.in1.in1 (call (.ref q) [u]) (fun k s'' => (∃ t, k = .int (ks i) t) ∧ J (i + 1) D kS s'' ∧ s''.heap.get? kS = some ok ∧ s''.heap.get? D = some od) (fun _ _ => False) s')
    (jk : ∀ i D kS s' h', J i D kS s' → (∀ x o, x ≠ kS → s'.heap.get? x = some o → h'.get? x = some o) → J i D kS { s' with heap := h' })
    (fin : ∀ D kS s' h' c, J its.length D kS s' → (∀ x o, x ≠ kS → x ≠ D → s'.heap.get? x = some o → h'.get? x = some o) → h'.get? D = some (seqObj "list" ((srtB ltI b ks its.length).map fun i => its.getD i .none).toArray c) → Q (.ref D) { s' with heap := h' }) :
    wpAny (model prog w) A (call (.builtin "sorted") [.ref l] [(Str.ofString "key", .ref q), (Str.ofString "reverse", .bool b)]) Q E s := by
  have hz' : its.length ≤ sizeLine := by rw [sizeLine_eq]; omega
  have hsz : ((s.heap.push (seqObj "list" #[] 0)).update s.heap.objs.size (Obj.mapSeq (· ++ its.toArray))).objs.size = s.heap.objs.size + 1 := (Heap.size_update ..).trans (size_push' ..)
  have hoL : (((s.heap.push (seqObj "list" #[] 0)).update s.heap.objs.size (Obj.mapSeq (· ++ its.toArray))).push (seqObj "list" its.toArray 0)).get? (s.heap.objs.size + 1) = some (seqObj "list" its.toArray 0) := hsz ▸ Heap.get?_push_size _ rfl
  have keep : ∀ x o, s.heap.get? x = some o → (((s.heap.push (seqObj "list" #[] 0)).update s.heap.objs.size (Obj.mapSeq (· ++ its.toArray))).push (seqObj "list" its.toArray 0)).get? x = some o := fun x o e => by
    have hlt : x < s.heap.objs.size := Heap.lt_size e
    exact Heap.get?_push_of_some _ ((Heap.get?_update_ne _ _ _ _ (Nat.ne_of_lt hlt)).trans (Heap.get?_push_of_some _ e))
  refine call_function_entry_kw kind_sorted plain_sorted entry_sorted (ksk_s2 _ _ _) ?_
  unfold Builtin.«sorted»
  refine wpAny_bind (m := checkCount "sorted" 1 1 _) (wpAny_pure (wpAny_bind (collect_list hl (wpAny_bind (wpAny_newList ?_ hz')) hz')))
  show wpAny _ _ _ _ _ (Shared.mk (((s.heap.push (seqObj "list" #[] 0)).update s.heap.objs.size (Obj.mapSeq (· ++ its.toArray))).push (seqObj "list" its.toArray 0)) s.gens s.drawn s.toks s.os)
  rw [hsz]
  refine wpAny_bind (wpAny_holding (wpAny_call_entry_kw slot_list_sort ⟨_, hoL, rfl⟩ entry_list_sort ?_ (ksk_l2 _ _ _)))
  show wpAny (model prog w) A.in1.in1 (Builtin.«list.sort» ⟨[.ref (s.heap.objs.size + 1)], _⟩) _ _ _
  rw [ksk_t2]
  generalize hH : ((s.heap.push (seqObj "list" #[] 0)).update s.heap.objs.size (Obj.mapSeq (· ++ its.toArray))).push (seqObj "list" its.toArray 0) = h1 at *
  have hz1 : h1.objs.size = s.heap.objs.size + 2 := by rw [← hH, size_push', hsz]
  clear hH
  obtain ⟨e1, ho1⟩ : ∃ e1, (h1.update (s.heap.objs.size + 1) (Obj.mapSeq fun _ => (#[] : Array Value))).get? (s.heap.objs.size + 1) = some (seqObj "list" #[] e1) := ⟨_, get?_update_seq hoL fun _ => #[]⟩
  have s1 := Heap.SameBut.update h1 (s.heap.objs.size + 1) (Obj.mapSeq fun _ => (#[] : Array Value))
  unfold ksk_tree
  refine wpAny_bind (listItems_at hoL rfl (wpAny_bind (listUpdate_at hoL rfl (wpAny_bind (seqEpoch_at ho1 rfl ?_)) (by rw [List.size_toArray]; exact hz') (Nat.zero_le _))))
  refine wpAny_bind (wpAny_newTuple (wpAny_bind (wpAny_newList (wpAny_holding ?_) (Nat.zero_le _))) (by show its.length ≤ _; exact hz'))
  generalize hH : ((h1.update (s.heap.objs.size + 1) (Obj.mapSeq fun _ => (#[] : Array Value))).push (seqObj "tuple" its.toArray 0)) = h2
  have hz2 : h2.objs.size = s.heap.objs.size + 3 := by rw [← hH, size_push', Heap.size_update, hz1]
  have keep2 : ∀ x o, s.heap.get? x = some o → (h2.push (seqObj "list" #[] 0)).get? x = some o := fun x o e => by
    have hlt : x < s.heap.objs.size := Heap.lt_size e
    rw [← hH]
    exact Heap.get?_push_of_some _ (Heap.get?_push_of_some _ ((s1.2 x (Nat.ne_of_lt (Nat.lt_succ_of_lt hlt))).trans (keep x o e)))
  have gD : (h2.push (seqObj "list" #[] 0)).get? (s.heap.objs.size + 1) = some (seqObj "list" #[] e1) := by
    rw [← hH]; exact Heap.get?_push_of_some _ (Heap.get?_push_of_some _ ho1)
  have gK : (h2.push (seqObj "list" #[] 0)).get? h2.objs.size = some (seqObj "list" #[] 0) := Heap.get?_push_size _ rfl
  show wpAny (model prog w) A.in1.in1 (ksk_rest (s.heap.objs.size + 1) (.ref q) b its.toArray e1 (.ref h2.objs.size)) _ _ (Shared.mk (h2.push (seqObj "list" #[] 0)) s.gens s.drawn s.toks s.os)
  have J0 : J 0 (s.heap.objs.size + 1) h2.objs.size (Shared.mk (h2.push (seqObj "list" #[] 0)) s.gens s.drawn s.toks s.os) := j0 (s.heap.objs.size + 1) h2.objs.size _ (by omega) (by omega) keep2
  have ne : s.heap.objs.size + 1 ≠ h2.objs.size := by omega
  generalize h2.objs.size = kS at *
  generalize s.heap.objs.size + 1 = D at *
  unfold ksk_rest
  refine wpAny_bind (wpAny_rule ?_)
  rw [List.forIn_toArray]
  refine wpAny_bind (ksk_fold (fun i s' => J i D kS s' ∧ ∃ kvs e, kvs.length = i ∧ (∀ j, j < i → ∃ t, kvs.getD j .none = .int (ks j) t) ∧ s'.heap.get? kS = some (seqObj "list" kvs.toArray e) ∧ s'.heap.get? D = some (seqObj "list" #[] e1)) its 0 _ ⟨J0, [], 0, rfl, fun j hj => by omega, gK, gD⟩ (fun j u s' hu hI => ?_) (fun s' hI => ?_))
  · obtain ⟨Jj, kvs, e, k1, k2, k3, k4⟩ := hI
    rw [Nat.zero_add] at *
    have hju : j < its.length := (List.getElem?_eq_some_iff.mp hu).1
    refine wpAny_bind (wpAny_attempt (wpAny_mono (jt j D kS u s' _ _ hu Jj k3 k4) (fun k s'' z => ?_) fun _ _ z => z.elim))
    obtain ⟨⟨t, rfl⟩, J1, g3, g4⟩ := z
    try dsimp only
    have s3 := Heap.SameBut.update s''.heap kS (Obj.mapSeq (·.push (.int (ks j) t)))
    obtain ⟨e3, he3⟩ : ∃ e3, (s''.heap.update kS (Obj.mapSeq (·.push (.int (ks j) t)))).get? kS = some (seqObj "list" (kvs ++ [Value.int (ks j) t]).toArray e3) := by
      have := get?_update_seq g3 (·.push (.int (ks j) t))
      rw [show kvs.toArray.push (.int (ks j) t) = (kvs ++ [Value.int (ks j) t]).toArray by simp] at this
      exact ⟨_, this⟩
    refine wpAny_bind (listUpdate_at g3 rfl (wpAny_pure ⟨rfl, jk _ _ _ _ _ J1 (fun x o hx ho => (s3.2 x hx).trans ho), kvs ++ [Value.int (ks j) t], e3, by simp [k1], fun i hi => ?_, he3, (s3.2 D ne).trans g4⟩) (by rw [List.size_toArray, sizeLine_eq]; omega) (by rw [Array.size_push, List.size_toArray, sizeLine_eq]; omega))
    · by_cases q : i = j
      · subst q
        exact ⟨t, by simp [List.getD, List.getElem?_append_right (Nat.le_of_eq k1), k1]⟩
      · obtain ⟨t', e'⟩ := k2 i (by omega)
        exact ⟨t', by rw [← e']; simp [List.getD, List.getElem?_append_left (show i < kvs.length by omega)]⟩
  · obtain ⟨Jn, kvs, e, k1, k2, k3, k4⟩ := hI
    rw [Nat.zero_add] at *
    try dsimp only
    refine wpAny_bind (listItems_at k3 rfl ?_)
    exact key_end nd hz k1 k2 ne k3 k4 fun h' c kp hc => ⟨_, rfl, wpAny_pure ⟨_, rfl, fin D kS s' h' c Jn kp hc⟩⟩
end
end TSrt
set_option Elab.async false
set_option linter.all false
set_option maxRecDepth 100000
namespace L2
open PySem PySem.Spec PyProof.Rows
section
variable {X : Cx} {pins : List (Addr × Obj)} {σ : St} {H : Hp} {s : Shared} {h' : Heap}
theorem Inv.track {t' : Nat} {fp : List Addr} {D : Addr} {o : HO} (I : Inv X pins σ H s) (hD : D ∈ fp) (k : ∀ b u, b ∉ fp → s.heap.get? b = some u → h'.get? b = some u) (hf : ∀ b ∈ fp, FpOk X pins H b)
    (new : ObjOk X.prog X.w (upd H D o) h' D o) : Inv X pins σ (upd H D o) { s with heap := h', toks := t' } := by
  have nit : ∀ b u, H b = some u → b ∉ fp := fun b u e z => by rw [(hf b z).1] at e; cases e
  have nD : ∀ b u, H b = some u → b ≠ D := fun b u e z => nit b u e (z ▸ hD)
  refine I.step (g' := s.gens) (d' := s.drawn) (ch := fp) (fun b hb => ?_) (fun b u _ _ hc e _ => k b u hc e) (fun b u _ _ hc e _ => ⟨u.slots, k b u hc e⟩) (fun b u hc _ n => by rw [upd_ne (fun z : b = D => hc (by rw [z]; exact hD))]; exact n)
    (fun b u hc e => ⟨u, k b u hc e⟩) (fun b _ e => by rw [upd_ne (nD b _ e)]; exact e) (fun b _ _ e => by rw [upd_ne (nD b _ e)]; exact e) (fun b ps e => ⟨#[], by rw [upd_ne (nD b _ e), e]; simp⟩) (fun m hm => ?_) (fun b u e => ?_) I.bare
  · obtain ⟨f0, f1, f2, f3, f4, f5⟩ := hf b hb
    exact ⟨f3, f1, f4, f5⟩
  · obtain ⟨ob, es, ep, ho, r⟩ := hm
    exact ⟨ob, es, ep, k _ ob (fun z => (hf _ z).2.1 rfl) ho, r⟩
  · by_cases hb : b = D
    · subst hb; rw [upd_same] at e; cases e; exact new
    · rw [upd_ne hb] at e
      refine (I.hok b u e).stay (fun c v hc q => k c v ?_ q) (fun c q => by rw [upd_ne (nD c _ q)]; exact q) fun c xs q => by rw [upd_ne (nD c _ q)]; exact q
      rcases hc with z | z
      · rw [z]; exact nit b u e
      · exact nit c _ z
end
end L2
namespace L3
open PySem L2 TSrt
open PyProof.Rows (boot_sorted callWith_kw kws_cons kws_nil Constant_bool)
section
variable {X : Cx} {K : PySem.W.Frag} {F0 H0 : Hp} {Ψ : Psi}
theorem key_turn {k : Nat} {f : Addr} {fd : FuncData} {ps : List Str} {φ : List D → R} (Fk : FnOk X.prog X.w X.K X.mg X.base CX0 k f fd ps (spV0 X.K φ 1)) (hr : Room (k + 1) X.A) (hb : Binds X.K fd ps [])
    {pins : List (Addr × Obj)} {σ : St} {F H : Hp} {s : Shared} {x : Value} {v : V} {d : D} {n : Int} (I : Inv X pins σ H s) (sub : Same F H) (rv : Rep X.K F d v) (rel : RelV v x) (hφ : φ [d] = .ok .fz (.int n)) :
    wpAny (model X.prog X.w) X.A.in1.in1 (PySem.call (.ref f) [x]) (fun u s' => ∃ t F' H', u = .int n t ∧ Inv X pins σ H' s' ∧ Step F H F' H' ∧ ∀ b o, s.heap.get? b = some o → FpOk X pins H b → s'.heap.get? b = some o ∧ FpOk X pins H' b) (fun _ _ => False) s := by
  have hr' : Room k X.A.in1.in1 := ⟨hr.hd, by have := hr.dp; show X.A.depth + 3 * k + 5 < _; omega, by have := hr.un; show X.A.units + 1 + 1 + 16 * k + 200 < _; omega⟩
  have sp : spV0 X.K φ 1 [v] H (fun u H' => u = .int n ∧ ∃ F', Step F H F' H') E0 := ⟨F, [d], sub, .cons rv .nil, rfl, by rw [hφ]; exact ⟨by simp, fun F' v H' p => ⟨p.val.rd.int, F', p.st⟩⟩⟩
  have hl := Fk.len _ _ _ _ sp
  refine wpAny_call (codeAny_mono (Fk.run X.A.in1.in1 X.stack s H ⟨[x], []⟩ [x] [v] _ E0 hr' I.env0.in1.in1 (by simpa using hb s [x] I.kIn (by simpa using hl)) (.cons rel .nil) sp) fun r s' hq => ?_)
  cases r with
  | error e => exact hq
  | ok fl =>
    cases fl with
    | next => exact hq
    | brk => exact hq
    | cont => exact hq
    | ret u =>
      obtain ⟨v', H', os, bare, un, hok, r, rfl, F', st⟩ := hq
      obtain ⟨t, rfl⟩ := r
      refine ⟨t, F', H', rfl, I.call' (ch := []) os un hok bare (fun b z => absurd z (by simp)), st, fun b o hb fp => ?_⟩
      have nfr : b ∉ frs X.stack := fun z => by
        rcases List.mem_cons.mp (I.stkSub b z) with e | z
        · exact fp.2.1 e
        · exact fp.2.2.1 z
      exact ⟨un.keep b o hb fp.1 nfr (by simp), un.free b o hb fp.1 (by simp), fp.2⟩
noncomputable def intK (φ : List D → R) (d : D) : Option Int := match φ [d] with
  | .ok .fz (.int n) => some n
  | _ => none
theorem intK_eq {φ : List D → R} {d : D} {n : Int} (h : intK φ d = some n) : φ [d] = .ok .fz (.int n) := by
  unfold intK at h
  split at h
  · cases h; assumption
  · cases h
noncomputable def allSome : List (Option Int) → Option (List Int)
  | [] => some []
  | some x :: l => (allSome l).map (x :: ·)
  | none :: _ => none
theorem allSome_at : ∀ {l : List (Option Int)} {ks : List Int} {i : Nat} {x : Option Int}, allSome l = some ks → l[i]? = some x → x = some (ks.getD i 0)
  | [], _, _, _, _, h => by simp at h
  | none :: _, _, _, _, e, _ => by cases e
  | some y :: l, ks, i, x, e, h => by
    simp only [allSome] at e
    cases e1 : allSome l with
    | none => rw [e1] at e; cases e
    | some ks' =>
      rw [e1] at e; cases e
      cases i with
      | zero => simp at h; subst h; rfl
      | succ i => exact allSome_at (l := l) (i := i) e1 (by simpa using h)
noncomputable def pickD (l : List Nat) (ds : List D) : List D := l.map fun i => ds.getD i .non
noncomputable def sortKD (φ : List D → R) (b : Bool) (ds : List D) : R := match allSome (ds.map (intK φ)), keysL ds with
  | some ks, some kl => if kl.Nodup ∧ ds.length ≤ 100000 then .ok .ow (.lst (pickD (srtB ltI b (fun i => ks.getD i 0) ds.length) ds)) else .no
  | _, _ => .no
noncomputable def sortKR (φ : List D → R) (b : Bool) : R → R
  | .ok _ (.lst ds) => sortKD φ b ds
  | .ex C => .ex C
  | _ => .no
noncomputable def eSortK (φ : List D → R) (b : Bool) (f : Ev → R) (ev : Ev) : R := sortKR φ b (f ev)
theorem Reps.pick {F : Hp} {ds : List D} {vs : List V} (r : Reps K F ds vs) : ∀ {l : List Nat}, (∀ i ∈ l, i < ds.length) → Reps K F (pickD l ds) (l.map fun i => vs.getD i .non)
  | [], _ => .nil
  | i :: l, h => by
    have hi := h i (by simp)
    obtain ⟨v, e, rv⟩ := r.get (List.getElem?_eq_getElem hi)
    refine .cons ?_ (Reps.pick r fun j hj => h j (by simp [hj]))
    have e1 : ds.getD i .non = ds[i] := by simp [hi]
    have e2 : vs.getD i .non = v := by simp [e]
    show Rep K F (ds.getD i .non) (vs.getD i .non)
    rw [e1, e2]; exact rv
theorem Vals.pick {vs : List V} {us : List Value} (r : Vals vs us) : ∀ {l : List Nat}, (∀ i ∈ l, i < vs.length) → Vals (l.map fun i => vs.getD i .non) (l.map fun i => us.getD i .none)
  | [], _ => .nil
  | i :: l, h => by
    have hi := h i (by simp)
    obtain ⟨u, e, rv⟩ := r.get (List.getElem?_eq_getElem hi)
    refine .cons ?_ (Vals.pick r fun j hj => h j (by simp [hj]))
    have e1 : vs.getD i .non = vs[i] := by simp [hi]
    have e2 : us.getD i .none = u := by simp [e]
    show L2.RelV (vs.getD i .non) (us.getD i .none)
    rw [e1, e2]; exact rv
theorem refs_nodup {F : Hp} {ds : List D} {kl : List (List Key)} {vs : List V} {us : List Value} (hk : keysL ds = some kl) (nd : kl.Nodup) (r : Reps K F ds vs) (rv : Vals vs us) : us.Nodup := by
  obtain ⟨h1, h2⟩ := keysL_at hk r
  have inj : ∀ a b : Key, kV a = kV b → a = b := fun a b e => by
    cases a <;> cases b <;> first | (cases e; rfl) | cases e
  refine List.pairwise_iff_getElem.mpr fun i j hi hj hij e => ?_
  have hiv : i < vs.length := by rw [rv.length]; exact hi
  have hjv : j < vs.length := by rw [rv.length]; exact hj
  obtain ⟨b1, k1, a1, a2, a3⟩ := h2 i vs[i] (List.getElem?_eq_getElem hiv)
  obtain ⟨b2, k2, c1, c2, c3⟩ := h2 j vs[j] (List.getElem?_eq_getElem hjv)
  obtain ⟨u1, e1, r1⟩ := rv.get (List.getElem?_eq_getElem hiv)
  obtain ⟨u2, e2, r2⟩ := rv.get (List.getElem?_eq_getElem hjv)
  rw [a1] at r1
  rw [c1] at r2
  have r1 : u1 = .ref b1 := r1
  have r2 : u2 = .ref b2 := r2
  rw [List.getElem?_eq_getElem hi] at e1
  rw [List.getElem?_eq_getElem hj] at e2
  have e1 : us[i] = u1 := Option.some.inj e1
  have e2 : us[j] = u2 := Option.some.inj e2
  rw [e1, e2, r1, r2] at e
  have eb : b1 = b2 := by injection e
  subst eb
  rw [a3] at c3
  have ek : k1.map kV = k2.map kV := by injection c3 with z; injection z
  have ek : k1 = k2 := List.map_inj_right inj |>.mp ek
  subst ek
  have hik : i < kl.length := by omega
  exact absurd ((List.getElem?_inj hik nd).mp (a2.trans c2.symm)) (by omega)
theorem v_sortK {k : Nat} {x : Str} {φ : List D → R} {b : Bool} {e : Expr} {f : Ev → R} {p pf kp1 kp2 pos pb : Pos} {cj} (C : Callee X.prog X.w X.K X.mg X.base k x 1 φ) (hr : Room (k + 1) X.A) (hm : X.mg "sorted" = none) (he : VE X F0 H0 Ψ e f)
    (hg : Gl X "sorted" := by rfl) (hgx : Gl X x := by rfl) (hdb : (x == ("__debug__" : Str)) = false := by decide)
    (hs : starEach [e] X.env = (false, eval e X.env) :: starEach [] X.env := by rfl) :
    VE X F0 H0 Ψ (.Call (.Name "sorted" p) [e] [⟨some (Str.ofString "key"), .Name x pf, kp1⟩, ⟨some (Str.ofString "reverse"), .Constant (.bool b) cj pb, kp2⟩] pos) (eSortK φ b f) := by
  obtain ⟨fa, fd, ps, Fk, hb, hmx, hk⟩ := C.ex
  intro pins s σ H Q I h
  obtain ⟨F, ev, fi, m⟩ := h
  unfold eSortK at m
  refine wpAny_Call_Name_kw (ld_blt I hg hm boot_sorted ?_)
  cases h1 : f ev with
  | no => rw [h1] at m; exact m.elim
  | ex C =>
    rw [h1] at m
    refine callWith_kw (thn ((pa_cons he pa_nil hs) pos pins s σ H (fun _ _ => False) I ⟨F, ev, fi, by rw [h1]; exact m⟩) fun us s1 ⟨vs, H1, I1, r, z⟩ => z.elim) (by rw [hs]; rfl) (by rw [hs]; rfl)
  | ok kd d =>
    rw [h1] at m
    refine callWith_kw (thn ((pa_cons he pa_nil hs) pos pins s σ H (fun us H1 => ∃ x F1, us = [x] ∧ Post X.K F H kd d F1 x H1) I ⟨F, ev, fi, by rw [h1]; exact fun F1 x H1 p1 => ⟨x, F1, rfl, p1⟩⟩) fun us s1 ⟨vs, H1, I1, r, x', F1, e1, p1⟩ => ?_) (by rw [hs]; rfl) (by rw [hs]; rfl)
    subst e1
    obtain ⟨u, rfl, ru⟩ := vals1 r
    refine kws_cons (ld_glob I1 hgx hmx (kws_cons (Constant_bool (kws_nil ?_))) hdb)
    show wpAny (model X.prog X.w) X.A (PySem.call (.builtin "sorted") [u] [(Str.ofString "key", .ref fa), (Str.ofString "reverse", .bool b)]) _ _ s1
    cases d with
    | lst ds =>
      have m : match sortKD φ b ds with
        | .ok k d => ∀ F' v H', Post X.K F H k d F' v H' → Q v H'
        | .ex C => ∀ F' H', Step F0 H0 F' H' → Ψ C H'
        | .no => False := m
      unfold sortKD at m
      cases q1 : allSome (ds.map (intK φ)) with
      | none => rw [q1] at m; exact m.elim
      | some ks =>
        rw [q1] at m
        cases q2 : keysL ds with
        | none => rw [q2] at m; exact m.elim
        | some kl =>
          rw [q2] at m
          dsimp only at m
          by_cases hc : kl.Nodup ∧ ds.length ≤ 100000
          · rw [if_pos hc] at m
            obtain ⟨a, vs, rfl, ha, hrs⟩ := p1.val.rd.lst p1.st.sub
            have ru : u = .ref a := ru
            subst ru
            obtain ⟨its, rv, pl, hz⟩ := I1.list (SqL.of ha)
            have hn : its.length = ds.length := by rw [← rv.length, hrs.length]
            have nd := refs_nodup q2 hc.1 hrs rv
            refine shell_key (ks := fun i => ks.getD i 0) pl.isList (by omega) nd (fun i D kS s' => ∃ F' H', Inv X pins σ H' s' ∧ Step F1 H1 F' H' ∧ FpOk X pins H' D ∧ FpOk X pins H' kS) ?_ ?_ ?_ ?_
            · intro D kS h' hD hk kp
              have hDf : H1 D = none := I1.hok.fresh hD
              have hKf : H1 kS = none := I1.hok.fresh (Nat.le_of_lt (Nat.lt_of_le_of_lt hD hk))
              exact ⟨F1, H1, I1.kept (t' := s1.toks) kp, .refl p1.st.sub, I1.fpOk hD hDf, I1.fpOk (Nat.le_of_lt (Nat.lt_of_le_of_lt hD hk)) hKf⟩
            · rintro i D kS u s' ok od hu ⟨F', H', I', st', fD, fK⟩ gK gD
              have hi : i < ds.length := by rw [← hn]; exact (List.getElem?_eq_some_iff.mp hu).1
              have hiv : i < vs.length := by rw [← hrs.length]; exact hi
              obtain ⟨v, ev1, rvv⟩ := hrs.get (List.getElem?_eq_getElem hi)
              obtain ⟨u', eu, rel⟩ := rv.get ev1
              rw [hu] at eu
              cases eu
              have hφ := intK_eq (allSome_at q1 (i := i) (x := intK φ ds[i]) (by simp [hi]))
              refine wpAny_mono (key_turn Fk hr hb I' st'.sub (rvv.mono st'.up) rel hφ) (fun kv s'' z => ?_) fun _ _ z => z
              obtain ⟨t, F2, H2, rfl, I2, st2, kp⟩ := z
              obtain ⟨k1, k2⟩ := kp kS ok gK fK
              obtain ⟨k3, k4⟩ := kp D od gD fD
              exact ⟨⟨t, rfl⟩, ⟨F2, H2, I2, st'.trans st2, k4, k2⟩, k1, k3⟩
            · rintro i D kS s' h' ⟨F', H', I', st', fD, fK⟩ kp
              refine ⟨F', H', I'.turnedL (t' := s'.toks) (fp := [kS]) (fun b o hb e => kp b o (by simpa using hb) e) (fun b hb => ?_), st', fD, fK⟩
              obtain rfl : b = kS := by simpa using hb
              exact fK
            · rintro D kS s' h' c ⟨F', H', I', st', fD, fK⟩ kp hD
              rw [hn] at hD
              have lt : ∀ i ∈ srtB ltI b (fun i => ks.getD i 0) ds.length, i < ds.length := fun i hi => srtB_lt hi
              have vv := Vals.pick rv (l := srtB ltI b (fun i => ks.getD i 0) ds.length) (fun i hi => by rw [← hrs.length]; exact lt i hi)
              have rr := (hrs.mono st'.up).pick lt
              have I2 := I'.track (t' := s'.toks) (fp := [D, kS]) (D := D) (o := .lst ((srtB ltI b (fun i => ks.getD i 0) ds.length).map fun i => vs.getD i .non)) (by simp) (fun b u hb e => kp b u (fun z : b = kS => hb (by simp [z])) (fun z : b = D => hb (by simp [z])) e) (fun b hb => by
                rcases List.mem_cons.mp hb with rfl | hb
                · exact fD
                · obtain rfl : b = kS := by simpa using hb
                  exact fK) ⟨by rw [List.length_map, show (srtB ltI b (fun i => ks.getD i 0) ds.length).length = ds.length by
                    unfold srtB; split
                    · rw [List.length_reverse, List.length_map, (srt_perm ..).length_eq, List.length_range]
                    · rw [(srt_perm ..).length_eq, List.length_range]]; have := sizeLine_ge; omega, _, _, vv, hD⟩
              refine ⟨.ref D, _, I2, rfl, m F' (.ref D) _ ?_⟩
              have po : Post X.K F1 H1 .ow (.lst (pickD (srtB ltI b (fun i => ks.getD i 0) ds.length) ds)) F' (.ref D) _ := Post.own st' fD.1 fun H2 hh => ⟨_, hh, rr⟩
              exact ⟨p1.st.trans po.st, po.val.early p1.st.keep⟩
          · rw [if_neg hc] at m; exact m.elim
    | _ => exact m.elim
end
end L3
set_option Elab.async false
set_option linter.all false
set_option maxRecDepth 100000
namespace TSrt
open PySem PySem.W PyProof.Rows PySem.Calls
noncomputable def ltK : L2.Key → L2.Key → Bool
  | .inl x, .inl y => decide (x < y)
  | .inr x, .inr y => decide (x.cps.toList < y.cps.toList)
  | .inl _, .inr _ => true
  | .inr _, .inl _ => false
theorem ltK_rf (x : L2.Key) : ltK x x = false := by
  cases x with
  | inl x => simp [ltK]
  | inr x => simp only [ltK, decide_eq_false_iff_not]; exact List.lt_irrefl _
theorem ltK_as {x y : L2.Key} (h : ltK x y = true) : ltK y x = false := by
  cases x <;> cases y <;> simp only [ltK, decide_eq_true_eq, decide_eq_false_iff_not, Bool.false_eq_true] at *
  · omega
  · exact List.lt_asymm h
theorem ltK_tri {x y : L2.Key} (h1 : ltK x y = false) (h2 : ltK y x = false) : x = y := by
  cases x <;> cases y <;> simp only [ltK, decide_eq_false_iff_not, Bool.true_eq_false] at *
  · congr 1; omega
  · rename_i a b
    have := List.le_antisymm (List.not_lt.mp h2) (List.not_lt.mp h1)
    obtain ⟨a⟩ := a
    obtain ⟨b⟩ := b
    have e : a = b := Array.toList_inj.mp this
    rw [e]
theorem ltK_tr {x y z : L2.Key} (h1 : ltK x y = true) (h2 : ltK y z = true) : ltK x z = true := by
  cases x <;> cases y <;> cases z <;> simp only [ltK, decide_eq_true_eq, Bool.false_eq_true] at *
  · omega
  · exact List.lt_trans h1 h2
noncomputable def lexK : List L2.Key → List L2.Key → Bool
  | x :: xs, y :: ys => if x = y then lexK xs ys else ltK x y
  | [], _ :: _ => true
  | _, [] => false
theorem lexK_as : ∀ {x y : List L2.Key}, lexK x y = true → lexK y x = false
  | [], [], h => by simp [lexK] at h
  | [], _ :: _, _ => rfl
  | _ :: _, [], h => by simp [lexK] at h
  | x :: xs, y :: ys, h => by
    simp only [lexK] at h ⊢
    by_cases e : x = y
    · rw [if_pos e] at h; rw [if_pos e.symm]; exact lexK_as h
    · rw [if_neg e] at h; rw [if_neg (fun z => e z.symm)]; exact ltK_as h
theorem lexK_tr : ∀ {x y z : List L2.Key}, lexK y x = false → lexK z y = false → lexK z x = false
  | [], [], [], _, _ => rfl
  | [], [], _ :: _, _, _ => rfl
  | [], _ :: _, [], _, h => by simp [lexK] at h
  | [], _ :: _, _ :: _, _, _ => rfl
  | _ :: _, [], _, h, _ => by simp [lexK] at h
  | _ :: _, _ :: _, [], _, h => by simp [lexK] at h
  | x :: xs, y :: ys, z :: zs, h1, h2 => by
    simp only [lexK] at h1 h2 ⊢
    by_cases e1 : y = x
    · subst e1
      rw [if_pos rfl] at h1
      by_cases e2 : z = y
      · rw [if_pos e2] at h2 ⊢; exact lexK_tr h1 h2
      · rw [if_neg e2] at h2 ⊢; exact h2
    · rw [if_neg e1] at h1
      by_cases e2 : z = y
      · subst e2; rw [if_neg e1]; exact h1
      · rw [if_neg e2] at h2
        have l1 : ltK x y = true := by
          cases q : ltK x y with
          | true => rfl
          | false => exact absurd (ltK_tri h1 q) e1
        have l2 : ltK y z = true := by
          cases q : ltK y z with
          | true => rfl
          | false => exact absurd (ltK_tri h2 q) e2
        have l3 := ltK_tr l1 l2
        rw [if_neg (fun e => by rw [e, ltK_rf] at l3; cases l3)]
        exact ltK_as l3
theorem swL : Swk lexK := ⟨lexK_as, lexK_tr⟩
noncomputable def kin : L2.Key → Bool
  | .inl _ => true
  | .inr _ => false
noncomputable def KRel (k : L2.Key) (u : Value) : Prop := L2.RelV (L2.kV k) u
noncomputable def KRels : List L2.Key → List Value → Prop
  | [], us => us = []
  | k :: ks, us => ∃ u r, us = u :: r ∧ KRel k u ∧ KRels ks r
section
variable {prog : Program} {w : World} {A : Around} {s : Shared}
theorem lex_ok {Q : Bool → Shared → Prop} {b : Bool} : ∀ {ks js : List L2.Key} {us vs : List Value} (i : Nat), KRels ks us → KRels js vs → ks.map kin = js.map kin → (b = true → i = 0 → ks.head?.map kin = some true) → Q (lexK ks js) s → KatLex prog w A b false Q (us.zip vs) i s
  | [], [], us, vs, i, h1, h2, _, _, q => by
    have : us = [] := h1
    subst this
    exact q
  | [], _ :: _, _, _, _, _, _, e, _, _ => by simp at e
  | _ :: _, [], _, _, _, _, _, e, _, _ => by simp at e
  | k :: ks, j :: js, us, vs, i, h1, h2, e, hb, q => by
    obtain ⟨u, us, rfl, r1, h1⟩ := h1
    obtain ⟨v, vs, rfl, r2, h2⟩ := h2
    simp only [List.map_cons, List.cons.injEq] at e
    have next : k = j → KatLex prog w A b false Q (us.zip vs) (i + 1) s := fun z => lex_ok (i + 1) h1 h2 e.2 (fun _ z => by omega) (by simp only [lexK, if_pos z] at q; exact q)
    have stop : k ≠ j → Q (ltK k j) s := fun z => by simp only [lexK, if_neg z] at q; exact q
    rw [List.zip_cons_cons]
    refine kat_cons ?_
    cases k with
    | inl x =>
      cases j with
      | inr y => simp [kin] at e
      | inl y =>
        obtain ⟨t1, rfl⟩ := r1
        obtain ⟨t2, rfl⟩ := r2
        refine wpAny_eqBool_int ?_
        by_cases z : x = y
        · subst z
          rw [beq_self_eq_true]
          exact kat_yes (next rfl)
        · rw [beq_eq_false_iff_ne.mpr z]
          refine kat_no ?_
          have st := stop (fun q => z (by injection q))
          cases hbi : (b && i == 0) with
          | true => exact oneLt_int st
          | false => exact kat_one _ _ (PyProof.Rows.lt_int st)
    | inr x =>
      cases j with
      | inl y => simp [kin] at e
      | inr y =>
        obtain ⟨t1, rfl⟩ := r1
        obtain ⟨t2, rfl⟩ := r2
        refine wpAny_eqBool_str ?_
        by_cases z : x = y
        · subst z
          rw [decide_eq_true rfl]
          exact kat_yes (next rfl)
        · rw [decide_eq_false z]
          refine kat_no ?_
          have st := stop (fun q => z (by injection q))
          have hbi : (b && i == 0) = false := by
            cases b with
            | false => rfl
            | true =>
              by_cases i0 : i = 0
              · have := hb rfl i0; simp [kin] at this
              · simp [i0]
          rw [hbi]
          exact kat_one _ _ (PySem.P.lt_str st)
noncomputable def IsT (h : Heap) (u : Value) (k : List L2.Key) : Prop := ∃ a o us n, u = .ref a ∧ h.get? a = some o ∧ o.cls = .type "tuple" ∧ o.data = .seq (List.toArray us) n ∧ KRels k us
theorem IsT.keep {h h' : Heap} {u : Value} {k : List L2.Key} (x : IsT h u k) (e : ∀ a o, h.get? a = some o → h'.get? a = some o) : IsT h' u k := by
  obtain ⟨a, o, us, n, h1, h2, h3⟩ := x; exact ⟨a, o, us, n, h1, e a o h2, h3⟩
theorem KRels.len : ∀ {ks : List L2.Key} {us : List Value}, KRels ks us → us.length = ks.length
  | [], _, h => by have : _ = [] := h; subst this; rfl
  | _ :: _, _, h => by obtain ⟨u, r, rfl, _, h⟩ := h; simp [h.len]
theorem tups_lt {u v : Value} {k j : List L2.Key} {E : Value → Shared → Prop} (h1 : IsT s.heap u k) (h2 : IsT s.heap v j) (e : k.map kin = j.map kin) (hh : k.head?.map kin = some true) :
    wpAny (model prog w) A (keyLt' (tuples' true) u v) (fun b s' => b = lexK k j ∧ s' = s) E s := by
  obtain ⟨a, oa, us, n, rfl, ha, _, hda, ra⟩ := h1
  obtain ⟨b, ob, vs, m, rfl, hb, _, hdb, rb⟩ := h2
  refine kat_lt ha hda hb hdb ?_
  have el : us.length = vs.length := by
    have := congrArg List.length e
    rw [List.length_map, List.length_map] at this
    rw [ra.len, rb.len, this]
  have : decide ((List.toArray us).size < (List.toArray vs).size) = false := by simp [el]
  rw [this]
  exact lex_ok 0 ra rb e (fun _ _ => hh) ⟨rfl, rfl⟩
theorem tups_kind {its : List Value} {kl : Nat → List L2.Key} {E : Value → Shared → Prop} {Q : SortKind → Shared → Prop} (hn : 0 < its.length) (hk : ∀ i u, its[i]? = some u → IsT s.heap u (kl i) ∧ (kl i).head?.map kin = some true) (q : Q (tuples' true) s) :
    wpAny (model prog w) A (keyKind' its.toArray) Q E s := by
  have go : ∀ (r : List Value) (m : Nat), (∀ i u, r[i]? = some u → IsT s.heap u (kl (m + i)) ∧ (kl (m + i)).head?.map kin = some true) → ∃ fs : List Value, fs.length = r.length ∧ KatTups s.heap r fs ∧ ∀ v ∈ fs, ∃ x t, v = .int x t := by
    intro r
    induction r with
    | nil => intro m _; exact ⟨[], rfl, .nil, fun v hv => by simp at hv⟩
    | cons u r ih =>
      intro m h
      obtain ⟨fs, f1, f2, f3⟩ := ih (m + 1) fun i v hv => by
        rw [show m + 1 + i = m + (i + 1) by omega]; exact h (i + 1) v (by simpa using hv)
      obtain ⟨⟨a, o, us, n, rfl, ho, hc, hd, hr⟩, hh⟩ := h 0 u rfl
      rw [Nat.add_zero] at hr hh
      cases q : kl m with
      | nil => rw [q] at hh; simp at hh
      | cons k ks =>
        rw [q] at hr hh
        obtain ⟨u0, us0, rfl, hu0, _⟩ := hr
        cases k with
        | inr _ => simp [kin] at hh
        | inl x =>
          obtain ⟨t, rfl⟩ := hu0
          exact ⟨.int x t :: fs, by simp [f1], .cons ho hc hd rfl f2, fun v hv => by
            rcases List.mem_cons.mp hv with rfl | hv
            · exact ⟨x, t, rfl⟩
            · exact f3 v hv⟩
  obtain ⟨fs, f1, f2, f3⟩ := go its 0 fun i u hu => by rw [Nat.zero_add]; exact hk i u hu
  refine kat_kind (T := .type "int") f2 (by omega) (fun v hv => ?_) rfl q
  obtain ⟨x, t, rfl⟩ := f3 v hv
  exact Looks.of_pure rfl
theorem shell_tup {E : Value → Shared → Prop} {l : Addr} {its : List Value} {kl : Nat → List L2.Key} {sh : List Bool} {Q : Value → Shared → Prop} (hl : s.heap.IsList l its.toArray) (hz : its.length ≤ 1000000) (nd : its.Nodup)
    (hk : ∀ i u, its[i]? = some u → IsT s.heap u (kl i) ∧ (kl i).map kin = sh) (hh : sh.head? = some true)
    (fin : ∀ D h' c, s.heap.objs.size ≤ D → (∀ x o, s.heap.get? x = some o → h'.get? x = some o) → h'.get? D = some (seqObj "list" ((srt lexK kl its.length).map fun i => its.getD i .none).toArray c) → Q (.ref D) { s with heap := h' }) :
    wpAny (model prog w) A (call (.builtin "sorted") [.ref l]) Q E s := by
  have hz' : its.length ≤ sizeLine := by rw [sizeLine_eq]; omega
  have hd : ∀ i u, its[i]? = some u → (kl i).head?.map kin = some true := fun i u hu => by
    rw [← (hk i u hu).2] at hh
    rw [← List.head?_map]; exact hh
  have hsz : ((s.heap.push (seqObj "list" #[] 0)).update s.heap.objs.size (Obj.mapSeq (· ++ its.toArray))).objs.size = s.heap.objs.size + 1 := (Heap.size_update ..).trans (size_push' ..)
  have hoL : (((s.heap.push (seqObj "list" #[] 0)).update s.heap.objs.size (Obj.mapSeq (· ++ its.toArray))).push (seqObj "list" its.toArray 0)).get? (s.heap.objs.size + 1) = some (seqObj "list" its.toArray 0) := hsz ▸ Heap.get?_push_size _ rfl
  have keep : ∀ x o, s.heap.get? x = some o → (((s.heap.push (seqObj "list" #[] 0)).update s.heap.objs.size (Obj.mapSeq (· ++ its.toArray))).push (seqObj "list" its.toArray 0)).get? x = some o := fun x o e => by
    have hlt : x < s.heap.objs.size := Heap.lt_size e
    exact Heap.get?_push_of_some _ ((Heap.get?_update_ne _ _ _ _ (Nat.ne_of_lt hlt)).trans (Heap.get?_push_of_some _ e))
  refine Calls.call_function_entry kind_sorted plain_sorted entry_sorted (args_sorted1 _) (show _ from ?_)
  unfold Builtin.«sorted»
  refine wpAny_bind (m := checkCount "sorted" 1 1 _) (wpAny_pure (wpAny_bind (collect_list hl (wpAny_bind (wpAny_newList ?_ hz')) hz')))
  show wpAny _ _ _ _ _ (Shared.mk (((s.heap.push (seqObj "list" #[] 0)).update s.heap.objs.size (Obj.mapSeq (· ++ its.toArray))).push (seqObj "list" its.toArray 0)) s.gens s.drawn s.toks s.os)
  rw [hsz]
  refine wpAny_bind (wpAny_holding (wpAny_call_entry slot_list_sort ⟨_, hoL, rfl⟩ entry_list_sort ?_ (args_list_sort _)))
  generalize hH : ((s.heap.push (seqObj "list" #[] 0)).update s.heap.objs.size (Obj.mapSeq (· ++ its.toArray))).push (seqObj "list" its.toArray 0) = h1 at *
  clear hH
  obtain ⟨e1, ho1⟩ : ∃ e1, (h1.update (s.heap.objs.size + 1) (Obj.mapSeq fun _ => (#[] : Array Value))).get? (s.heap.objs.size + 1) = some (seqObj "list" #[] e1) := ⟨_, get?_update_seq hoL fun _ => #[]⟩
  have s1 := Heap.SameBut.update h1 (s.heap.objs.size + 1) (Obj.mapSeq fun _ => (#[] : Array Value))
  rw [list_sort_plain]
  refine wpAny_bind (listItems_at hoL rfl (wpAny_bind (listUpdate_at hoL rfl (wpAny_bind (seqEpoch_at ho1 rfl ?_)) (by rw [List.size_toArray]; exact hz') (Nat.zero_le _))))
  refine wpAny_bind (wpAny_newTuple (wpAny_bind (wpAny_newList (wpAny_holding ?_) (Nat.zero_le _))) (by show its.length ≤ _; exact hz'))
  generalize hH : ((h1.update (s.heap.objs.size + 1) (Obj.mapSeq fun _ => (#[] : Array Value))).push (seqObj "tuple" its.toArray 0)).push (seqObj "list" #[] 0) = h2
  have keep2 : ∀ x o, s.heap.get? x = some o → h2.get? x = some o := fun x o e => by
    have hlt : x < s.heap.objs.size := Heap.lt_size e
    rw [← hH]
    exact Heap.get?_push_of_some _ (Heap.get?_push_of_some _ ((s1.2 x (Nat.ne_of_lt (Nat.lt_succ_of_lt hlt))).trans (keep x o e)))
  have gD : h2.get? (s.heap.objs.size + 1) = some (seqObj "list" #[] e1) := by
    rw [← hH]; exact Heap.get?_push_of_some _ (Heap.get?_push_of_some _ ho1)
  clear hH
  have tail : ∀ st : SortSt, failedOf st = none → (arrOf st).map (·.2) = ((srt lexK kl its.length).map fun i => its.getD i .none).toArray →
      wpAny (model prog w) A.in1.in1 (do
        let touched := (← seqEpoch (s.heap.objs.size + 1)) != e1
        Builtin.List.listUpdate (.ref (s.heap.objs.size + 1)) fun _ => (arrOf st).map (·.2)
        if let some e := failedOf st then rule "list.sort.comparison-raised"; throw e
        if touched then
          rule "list.sort.modified"
          raiseError "ValueError" "list modified during sort"
        ret .none) (fun fin s' => ∃ v, fin = .done (.ret v) ∧ (wpAny (model prog w) A.in1 (pure (.done (.ret (.ref (s.heap.objs.size + 1)))) : Sem PySem.Fin) (fun fin s' => ∃ v, fin = .done (.ret v) ∧ Q v s') E s')) E (Shared.mk h2 s.gens s.drawn s.toks s.os) := fun st hf hout => by
    have hlen : ((srt lexK kl its.length).map fun i => its.getD i .none).length = its.length := by
      rw [List.length_map, (srt_perm ..).length_eq, List.length_range]
    rw [hout]
    obtain ⟨c2, hc2⟩ : ∃ c2, (h2.update (s.heap.objs.size + 1) (Obj.mapSeq fun _ => ((srt lexK kl its.length).map fun i => its.getD i .none).toArray)).get? (s.heap.objs.size + 1) = some (seqObj "list" ((srt lexK kl its.length).map fun i => its.getD i .none).toArray c2) := ⟨_, get?_update_seq gD fun _ => _⟩
    have s2 := Heap.SameBut.update h2 (s.heap.objs.size + 1) (Obj.mapSeq fun _ => ((srt lexK kl its.length).map fun i => its.getD i .none).toArray)
    refine wpAny_bind (seqEpoch_at gD rfl (wpAny_bind (listUpdate_at gD rfl ?_ (Nat.zero_le _) (by rw [List.size_toArray, hlen, sizeLine_eq]; omega))))
    rw [hf]
    simp only [bne_self_eq_false, Bool.false_eq_true, if_false]
    exact wpAny_pure ⟨_, rfl, wpAny_pure ⟨_, rfl, fin _ _ c2 (Nat.le_succ _) (fun x o e => (s2.2 x (Nat.ne_of_lt (Nat.lt_succ_of_lt (Heap.lt_size e)))).trans (keep2 x o e)) hc2⟩⟩
  show wpAny (model prog w) A.in1.in1 _ _ _ (Shared.mk h2 s.gens s.drawn s.toks s.os)
  dsimp only
  by_cases hs : its.toArray.size < 2
  · rw [if_pos hs, if_pos hs]
    rw [List.size_toArray] at hs
    refine wpAny_bind (wpAny_pure ?_)
    rw [StateT.run_pure]
    refine wpAny_bind (wpAny_pure (tail _ rfl ?_))
    rw [srt_small hs, range_getD]
    apply Array.toList_inj.mp
    show ((its.toArray.zip its.toArray).map (·.2)).toList = _
    rw [Array.toList_map, ksk_zip]
    exact List.map_snd_zip (by simp)
  · rw [if_neg hs, if_neg hs]
    rw [List.size_toArray] at hs
    refine wpAny_bind (tups_kind (kl := kl) (by omega) (fun i u hu => ⟨(hk i u hu).1.keep keep2, hd i u hu⟩) ?_)
    refine wpAny_bind (wpAny_mono (srt_runs (lt := lexK) (ks := kl) (κ := tuples' true) (G := fun s' => s' = Shared.mk h2 s.gens s.drawn s.toks s.os) swL rfl nd (fun i j hi hj s' g => ?_) rfl (Q := fun _ st' s' => failedOf st' = none ∧ (arrOf st').map (·.2) = ((srt lexK kl its.length).map fun i => its.getD i .none).toArray ∧ s' = Shared.mk h2 s.gens s.drawn s.toks s.os) fun st' s' z1 z2 z3 => ⟨z1, z2, z3⟩) (fun r s' z => ?_) fun _ _ z => z)
    · subst g
      have at_ : ∀ i, i < its.length → its[i]? = some (its.getD i .none) := fun i hi => by simp [hi]
      have a1 := hk i _ (at_ i hi)
      have a2 := hk j _ (at_ j hj)
      exact tups_lt (a1.1.keep keep2) (a2.1.keep keep2) (a1.2.trans a2.2.symm) (hd i _ (at_ i hi))
    · obtain ⟨⟨⟩, st⟩ := r
      obtain ⟨z1, z2, z3⟩ := z
      have z3 : s' = Shared.mk h2 s.gens s.drawn s.toks s.os := z3
      subst z3
      exact tail st z1 z2
end
end TSrt
set_option Elab.async false
set_option linter.all false
set_option maxRecDepth 100000
namespace L3
open PySem L2 TSrt
noncomputable def okSh : List (List Key) → Bool
  | [] => true
  | k :: r => decide (k.head?.map kin = some true) && r.all fun j => decide (j.map kin = k.map kin)
theorem okSh_sh {kl : List (List Key)} (h : okSh kl = true) : ∃ sh : List Bool, sh.head? = some true ∧ ∀ (i : Nat) (k : List Key), kl[i]? = some k → k.map kin = sh := by
  cases kl with
  | nil => exact ⟨[true], rfl, fun i k e => by simp at e⟩
  | cons k r =>
    simp only [okSh, Bool.and_eq_true, decide_eq_true_eq, List.all_eq_true] at h
    refine ⟨k.map kin, by rw [List.head?_map]; exact h.1, fun i j e => ?_⟩
    cases i with
    | zero => simp at e; rw [e]
    | succ i => exact h.2 j (List.mem_of_getElem? (by simpa using e))
theorem krels_of : ∀ {k : List Key} {us : List Value}, Vals (k.map kV) us → KRels k us
  | [], _, h => by cases h; rfl
  | _ :: _, _, .cons r h => ⟨_, _, rfl, r, krels_of h⟩
section
variable {X : Cx}
noncomputable def rSrt (K : PySem.W.Frag) : List V → Hp → VK → Prop := fun xs H Q => ∃ (a : Addr) (vs : List V) (kl : List (List Key)), xs = [.ref a] ∧ SqL K H a vs ∧ vs.length = kl.length ∧ vs.length ≤ 100000 ∧ (∀ (i : Nat) v, vs[i]? = some v → ∃ b k, v = .ref b ∧ kl[i]? = some k ∧ H b = some (.tup (k.map kV))) ∧ kl.Nodup ∧ okSh kl = true ∧
  ∀ p, H p = none → Q (.ref p) (upd H p (.lst ((srt lexK (fun i => kl.getD i []) vs.length).map fun i => vs.getD i .non)))
theorem call_srt : CallR X (.builtin "sorted") (rSrt X.K) := by
  intro pins s σ H xs us Q I r h
  obtain ⟨a, vs, kl, rfl, hq, hl, hb, hk, nd, hs, q⟩ := h
  obtain ⟨u, rfl, ru⟩ := vals1 r
  cases ru
  obtain ⟨its, rv, pl, hz⟩ := I.list hq
  have hlen := rv.length
  obtain ⟨sh, s1, s2⟩ := okSh_sh hs
  have inj : ∀ a b : Key, kV a = kV b → a = b := fun a b e => by
    cases a <;> cases b <;> first | (cases e; rfl) | cases e
  have at_ : ∀ (i : Nat) (u : Value), its[i]? = some u → ∃ b k, u = .ref b ∧ kl[i]? = some k ∧ H b = some (.tup (k.map kV)) := fun i u hu => by
    have hi : i < vs.length := by rw [hlen]; exact (List.getElem?_eq_some_iff.mp hu).1
    obtain ⟨b, k, e1, e2, e3⟩ := hk i vs[i] (List.getElem?_eq_getElem hi)
    obtain ⟨u', hu', r'⟩ := rv.get (List.getElem?_eq_getElem hi)
    rw [hu] at hu'
    cases hu'
    rw [e1] at r'
    exact ⟨b, k, r', e2, e3⟩
  have ndv : its.Nodup := by
    refine List.pairwise_iff_getElem.mpr fun i j hi hj hij e => ?_
    obtain ⟨b1, k1, a1, a2, a3⟩ := at_ i its[i] (List.getElem?_eq_getElem hi)
    obtain ⟨b2, k2, c1, c2, c3⟩ := at_ j its[j] (List.getElem?_eq_getElem hj)
    rw [a1, c1] at e
    have eb : b1 = b2 := by injection e
    subst eb
    rw [a3] at c3
    have ek : k1.map kV = k2.map kV := by injection c3 with z; injection z
    have ek : k1 = k2 := List.map_inj_right inj |>.mp ek
    subst ek
    exact absurd ((List.getElem?_inj (by omega) nd).mp (a2.trans c2.symm)) (by omega)
  refine shell_tup (kl := fun i => kl.getD i []) (sh := sh) pl.isList (by omega) ndv (fun i u hu => ?_) s1 fun D h' c hD kp hc => ?_
  · obtain ⟨b, k, e1, e2, e3⟩ := at_ i u hu
    have ek : kl.getD i [] = k := by simp [e2]
    rw [ek]
    obtain ⟨_, its', r', o, ho, hcl, n, hd⟩ := I.hok b _ e3
    exact ⟨⟨b, o, its', n, e1, ho, hcl, hd, krels_of r'⟩, s2 i k e2⟩
  · rw [← hlen] at hc
    have vv := Vals.pick rv (l := srt lexK (fun i => kl.getD i []) vs.length) fun i hi => srt_lt hi
    have I2 := I.laid (t' := s.toks) (a := D) (o := .lst ((srt lexK (fun i => kl.getD i []) vs.length).map fun i => vs.getD i .non)) kp hD ⟨by rw [List.length_map, (srt_perm ..).length_eq, List.length_range]; exact hz, _, _, vv, hc⟩
    exact ⟨.ref D, _, I2, rfl, q D (I.hok.fresh hD)⟩
noncomputable def sortTD (ds : List D) : R := match keysL ds with
  | some kl => if kl.Nodup ∧ okSh kl = true ∧ ds.length ≤ 100000 then .ok .ow (.lst (pickD (srt lexK (fun i => kl.getD i []) ds.length) ds)) else .no
  | _ => .no
noncomputable def sortTR : R → R
  | .ok _ (.lst ds) => sortTD ds
  | .ex C => .ex C
  | _ => .no
noncomputable def eSortT (f : Ev → R) (ev : Ev) : R := sortTR (f ev)
variable {F0 H0 : Hp} {Ψ : Psi}
theorem v_sortT {e : Expr} {f : Ev → R} {p pos : Pos} (hm : X.mg "sorted" = none) (he : VE X F0 H0 Ψ e f)
    (hg : Gl X "sorted" := by rfl) (h1 : starEach [e] X.env = (false, eval e X.env) :: starEach [] X.env := by rfl) :
    VE X F0 H0 Ψ (.Call (.Name "sorted" p) [e] [] pos) (eSortT f) :=
  (pe_callB call_srt hg hm PyProof.Rows.boot_sorted (pa_cons he pa_nil h1) (by decide) (by decide) h1).mono fun σ H Q h => by
    obtain ⟨F, ev, fi, m⟩ := h
    refine ⟨F, ev, fi, ?_⟩
    unfold eSortT at m
    cases q1 : f ev with
    | no => rw [q1] at m; exact m
    | ex C => rw [q1] at m; exact m
    | ok k d =>
      rw [q1] at m
      intro F1 x H1 p1
      cases d with
      | lst ds =>
        have m : match sortTD ds with
          | .ok k d => ∀ F' v H', Post X.K F H k d F' v H' → Q v H'
          | .ex C => ∀ F' H', Step F0 H0 F' H' → Ψ C H'
          | .no => False := m
        unfold sortTD at m
        cases e1 : keysL ds with
        | none => rw [e1] at m; exact m.elim
        | some kl =>
          rw [e1] at m
          dsimp only at m
          by_cases hb : kl.Nodup ∧ okSh kl = true ∧ ds.length ≤ 100000
          · rw [if_pos hb] at m
            obtain ⟨a, vs, rfl, ha, hr⟩ := p1.val.rd.lst p1.st.sub
            obtain ⟨g1, g2⟩ := keysL_at e1 hr
            have hl := hr.length
            refine ⟨a, vs, kl, rfl, SqL.of ha, g1, by omega, fun i v hv => ?_, hb.1, hb.2.1, fun pp hp => ?_⟩
            · obtain ⟨b, k', a1, a2, a3⟩ := g2 i v hv
              exact ⟨b, k', a1, a2, p1.st.sub _ _ a3⟩
            · rw [← hl]
              have po : Post X.K F1 H1 .ow (.lst (pickD (srt lexK (fun i => kl.getD i []) ds.length) ds)) F1 (.ref pp) (upd H1 pp (.lst ((srt lexK (fun i => kl.getD i []) ds.length).map fun i => vs.getD i .non))) := Post.own (.refl p1.st.sub) hp fun H2 hh => ⟨_, hh, hr.pick fun i hi => srt_lt hi⟩
              exact m F1 (.ref pp) _ ⟨p1.st.trans po.st, po.val.early p1.st.keep⟩
          · rw [if_neg hb] at m; exact m.elim
      | _ => exact m.elim
end
end L3
set_option Elab.async false
set_option linter.all false
set_option maxRecDepth 100000
namespace L3
open PySem L2 TSrt
section
variable {X : Cx} {K : PySem.W.Frag} {F0 H0 : Hp} {Ψ : Psi} {σ : St} {H : Hp}
variable {e : Expr} {f : Ev → R} {x : Str} {p apos cpos pos : Pos}
end
end L3
set_option Elab.async false
set_option linter.all false
set_option maxRecDepth 100000
namespace L3
open PySem L2 TSrt
mutual
noncomputable def flatD : D → Bool
  | .non => true
  | .bl _ => true
  | .int _ => true
  | .str _ => true
  | .tup xs => flatL xs
  | _ => false
noncomputable def flatL : List D → Bool
  | [] => true
  | d :: ds => flatD d && flatL ds
end
noncomputable def less (F : Hp) (a : Addr) : Hp := fun b => if b = a then none else F b
theorem less_ne {F : Hp} {a b : Addr} (h : b ≠ a) : less F a b = F b := by unfold less; rw [if_neg h]
theorem less_of {F : Hp} {a b : Addr} {o : HO} (h : less F a b = some o) : b ≠ a ∧ F b = some o := by
  unfold less at h
  split at h
  · cases h
  · rename_i z; exact ⟨z, h⟩
section
variable {X : Cx} {K : PySem.W.Frag} {F0 H0 : Hp} {Ψ : Psi} {σ : St} {H : Hp}
mutual
theorem Rep.less {F : Hp} {a : Addr} {ls : List V} (hn : ∀ xs, F a ≠ some (.tup xs)) : ∀ {d : D} {v : V}, flatD d = true → Rep K F d v → Rep K (less F a) d v
  | .non, _, _, h => by rw [Rep] at h ⊢; exact h
  | .bl _, _, _, h => by rw [Rep] at h ⊢; exact h
  | .int _, _, _, h => by rw [Rep] at h ⊢; exact h
  | .str _, _, _, h => by rw [Rep] at h ⊢; exact h
  | .tup xs, v, f, h => by
    rw [Rep] at h ⊢
    obtain ⟨b, vs, h1, h2, h3⟩ := h
    have nb : b ≠ a := fun z => hn vs (z ▸ h2)
    exact ⟨b, vs, h1, by rw [less_ne nb]; exact h2, Reps.less (ls := ls) hn (by rw [flatD] at f; exact f) h3⟩
  | .lst _, _, f, _ => by simp [flatD] at f
  | .dK _ _, _, f, _ => by simp [flatD] at f
  | .dT _ _, _, f, _ => by simp [flatD] at f
  | .obj _ _ _, _, f, _ => by simp [flatD] at f
  | .scr _, _, f, _ => by simp [flatD] at f
  | .ty _, _, f, _ => by simp [flatD] at f
theorem Reps.less {F : Hp} {a : Addr} {ls : List V} (hn : ∀ xs, F a ≠ some (.tup xs)) : ∀ {ds : List D} {vs : List V}, flatL ds = true → Reps K F ds vs → Reps K (less F a) ds vs
  | [], _, _, h => by rw [Reps] at h ⊢; exact h
  | d :: ds, _, f, h => by
    rw [flatL, Bool.and_eq_true] at f
    obtain ⟨v, r, rfl, h1, h2⟩ := h.uncons
    exact .cons (Rep.less (ls := ls) hn f.1 h1) (Reps.less (ls := ls) hn f.2 h2)
end
noncomputable def setUR (j : Nat) (ev : Ev) : R → Fl
  | .ok .ow (.lst es) => if flatL es = true then .nx (ev.set j (some (.ow, .lst es))) else .no
  | .ex C => .ex C
  | _ => .no
noncomputable def setUG (i j : Nat) (f : Ev → R) (ev : Ev) : Fl := match ev[i]? with
  | some (some (.ow, .lst ds)) => setUR j ev (f (ev.set i (some (.fz, .lst ds))))
  | _ => .no
theorem tSetU_of {i j : Nat} {f : Ev → R} {E : Ends} (q : tSv K F0 H0 Ψ (setUG i j f) E σ H) : tAsg (tV K F0 H0 Ψ f) (gName j) E σ H := by
  obtain ⟨F, ev, fi, m⟩ := q
  unfold setUG at m
  split at m
  · rename_i ds e
    obtain ⟨_, v, ev1, hv⟩ := fi.at_ i _ _ e
    obtain ⟨a, rfl, h1, h2, h3⟩ := hv
    obtain ⟨vs, h4, h5⟩ := h3
    have up : Same F (upd F a (.lst vs)) := fun b u z => by
      rw [upd_ne]; exact z
      rintro rfl; rw [h2] at z; cases z
    have ee : frzEv i ev = ev.set i (some (.fz, .lst ds)) := by unfold frzEv; rw [e]
    -- the same names, this one frozen
    have fi' : FI K F0 H0 (upd F a (.lst vs)) H (ev.set i (some (.fz, .lst ds))) σ := by
      have hi : i < σ.length := (List.getElem?_eq_some_iff.mp ev1).1
      have hie : i < ev.length := by rw [fi.len]; exact hi
      have ne : ∀ {m : Nat} {x : D}, (ev.set i (some (Kd.fz, D.lst ds)))[m]? = some (some (.ow, x)) → i ≠ m ∧ ev[m]? = some (some (.ow, x)) := fun {m x} q => by
        by_cases hm : i = m
        · subst hm; rw [List.getElem?_set_self hie] at q; cases q
        · rw [List.getElem?_set_ne hm] at q; exact ⟨hm, q⟩
      refine ⟨⟨fi.st.up.trans up, fun b u q => ?_, fi.st.keep, fun b u q => ?_⟩, fun l k d' q => ?_, fun l l' d1 d2 hl e1 e2 => ?_, by simpa using fi.len⟩
      · by_cases hb : b = a
        · subst hb; rw [upd_same] at q; cases q; exact h4
        · rw [upd_ne hb] at q; exact fi.sub _ _ q
      · by_cases hb : b = a
        · subst hb; exact .inr h1
        · rw [upd_ne hb] at q; exact fi.st.new _ _ q
      · by_cases hj : i = l
        · subst hj
          rw [List.getElem?_set_self hie] at q
          cases q
          exact ⟨by simp, _, ev1, by rw [Val, Rep]; exact ⟨a, vs, rfl, upd_same, h5.mono up⟩⟩
        · rw [List.getElem?_set_ne hj] at q
          obtain ⟨n, u, e3, hu⟩ := fi.at_ l k d' q
          refine ⟨n, u, e3, ?_⟩
          cases k with
          | bo => exact absurd rfl n
          | fz => exact Rep.mono up hu
          | ow =>
            obtain ⟨b, rfl, g1, g2, g3⟩ := hu
            have hba : b ≠ a := by
              rintro rfl
              exact fi.apart i l _ d' hj e q (by rw [ev1, e3])
            exact ⟨b, rfl, g1, by rw [upd_ne hba]; exact g2, g3.mono up fun o e => e⟩
      · exact fi.apart l l' d1 d2 hl (ne e1).2 (ne e2).2
    refine ⟨upd F a (.lst vs), _, fi', ?_⟩
    cases h6 : f (ev.set i (some (.fz, .lst ds))) with
    | no => rw [h6] at m; exact m
    | ex C => rw [h6] at m; exact m
    | ok k d =>
      rw [h6] at m
      intro F1 x H1 p
      cases k with
      | bo => exact m.elim
      | fz => exact m.elim
      | ow =>
        cases d with
        | lst es =>
          have m : FlowTo K F0 H0 Ψ F E (if flatL es = true then .nx (ev.set j (some (.ow, .lst es))) else .no) := m
          by_cases hf : flatL es = true
          · rw [if_pos hf] at m
            have Fa : F1 a = some (.lst vs) := p.st.up a _ upd_same
            obtain ⟨c, rfl, c1, c2, ys, c3, c4⟩ := p.val
            have ca : c ≠ a := fun z => by rw [z, Fa] at c2; cases c2
            have po : Post K F H .ow (.lst es) (less F1 a) (.ref c) H1 := by
              refine ⟨⟨fun b u z => ?_, fun b u z => p.st.sub b u (less_of z).2, p.st.keep, fun b u z => ?_⟩, c, rfl, c1, by rw [less_ne ca]; exact c2, ys, c3, Reps.less (ls := ys) (fun xs z => by rw [Fa] at z; cases z) hf c4⟩
              · have : b ≠ a := by rintro rfl; rw [h2] at z; cases z
                rw [less_ne this]; exact p.st.up b u (up b u z)
              · obtain ⟨nb, z⟩ := less_of z
                rcases p.st.new b u z with w | w
                · rw [upd_ne nb] at w; exact .inl w
                · exact .inr w
            exact m (less F1 a) H1 _ po.st.up (fi.set po (by simp))
          · rw [if_neg hf] at m; exact m.elim
        | _ => exact m.elim
  · exact m.elim
end
section
variable {X : Cx} {F0 H0 : Hp} {Ψ : Psi} {osc scope : Scope} {N : List Str} {target iter elt : Expr} {ifs : List Expr} {pos : Pos} {fi : Ev → RI} {b : B1} {f e : Ev → R}
theorem vs_compU (u i : Nat) {x : Str} {py spos : Pos} (N' : List Str) (cap : List (Option Nat)) (S : List Nat) (hX : X.env.scope = osc) (hN : X.N = N) (nd : X.N.Nodup) (C : CompSc osc N N' cap scope) (hcalm : X.calm = true) (hi : VI X F0 H0 Ψ target iter fi) (hB : BOnly S b)
    (hb : ∀ C s H fp, VG (cxC X N' scope C s H fp) F0 H0 target b ∧ VF (cxC X N' scope C s H fp) F0 H0 ifs f ∧ VE (cxC X N' scope C s H fp) F0 H0 Psi0 elt e) (hS : ∀ i ∈ S, cap[i]? = some none := by decide)
    (hix : X.N[i]? = some x := by rfl) (hx : Loc X.env.scope x := by first | exact Or.inl rfl | exact Or.inr rfl) (hf : X.fn x = true ∨ X.env.scope.names.lookup x = some .local := by first | exact .inl rfl | exact .inr rfl)
    (hsw : swapsWith (.ListComp elt [⟨target, iter, ifs, 0⟩] scope pos) (some (.Name x py)) spos.line X.env = pure true := by rfl)
    (hs : ∀ x, foldedSetIterable iter X.env x = pure x := by intro _; rfl) : VS X F0 H0 Ψ (.Assign [.Name x py] (.ListComp elt [⟨target, iter, ifs, 0⟩] scope pos) spos) (setUG u i (eComp cap fi b f e)) :=
  (ps_lcomp (g := gV X.K F0 H0 b) (tc := tVT X.K F0 H0 Psi0 f) (te := tV X.K F0 H0 Psi0 e) hcalm (C.to hX hN) hi hb (pg_name nd hix hx hf) hsw hs).mono fun _ _ _ q => tLC_of hB hS (tSetU_of q)
end
end L3
set_option Elab.async false
set_option linter.all false
set_option maxRecDepth 100000
namespace L3
open PySem L2
section
variable {X : Cx} {F0 H0 : Hp} {g h : Ev → Fl} {st : Stmt} {sts rest : List Stmt} {pos : Pos}
variable {e0 e1 e2 : Expr} {f0 f1 f2 : Ev → R} {x1 : ExprCtx}
end
section
variable {P : Program} {w : World} {K : PySem.W.Frag} {mg : Str → Option Value} {base : Heap}
end
section
variable {X : Cx} {K : PySem.W.Frag} {F0 H0 Fb Hb F H F' H' : Hp} {Ψ : Psi} {i : Nat} {l : List D} {ev : Ev} {σ : St}
variable {k n : Nat} {x y : Str} {φ : List D → R} {p p' pos pos' : Pos} {e : Expr} {es : List Expr} {fs : Ev → RA} {sts body : List Stmt} {h g : Ev → Fl}
variable {ji : Int} {kk : Nat} {q1 q2 q3 q4 q5 apos cpos : Pos}
end
end L3
set_option Elab.async false
set_option linter.all false
set_option maxRecDepth 100000
namespace L3
open PySem L2 PySem.SeqAt
noncomputable def cntD (xs : List D) (b : D) : Option (Kd × D) := match pyL xs, py b with
  | some qs, some p => if p.depth ≤ DEEP then some (.fz, .int ((qs.countP fun q => q.eqv p : Nat) : Int)) else none
  | _, _ => none
noncomputable def cntR2 (xs : List D) : R → R
  | .ok _ d => toR (cntD xs d)
  | .ex C => .ex C
  | .no => .no
noncomputable def cntR : R → R → R
  | .ok _ (.lst xs), r => cntR2 xs r
  | .ex C, _ => .ex C
  | _, _ => .no
noncomputable def eCnt (f1 f2 : Ev → R) (ev : Ev) : R := cntR (f1 ev) (f2 ev)
section
variable {X : Cx} {F0 H0 : Hp} {Ψ : Psi} {a b : Expr} {f1 f2 : Ev → R} {apos cpos : Pos}
noncomputable def rCnt (K : PySem.W.Frag) : V → List V → Hp → VK → Prop := fun x vs H Q => ∃ xs dy y n, vs = [y] ∧ Rep K H (.lst xs) x ∧ Rep K H dy y ∧ cntD xs dy = some (.fz, .int n) ∧ Q (.int n) H
theorem mt_cnt (hu : X.A.units + 100 < cLine) : MtR X "list.count" (rCnt X.K) := by
  intro pins s σ H x vs v us Q I rx rv h
  obtain ⟨xs, dy, y, n, rfl, hx, hy, e, q⟩ := h
  obtain ⟨u, rfl, ru⟩ := rv.one
  unfold cntD at e
  split at e
  · rename_i qs p e1 e2
    split at e
    · rename_i hd
      have e' : ((qs.countP fun q => q.eqv p : Nat) : Int) = n := by injection e with e; injection e with _ e; injection e
      obtain ⟨as, r1, c1⟩ := hx.reads I rx (show py (.lst xs) = some (.list qs) by rw [py, e1]; rfl)
      obtain ⟨bs, r2, c2⟩ := hy.reads I ru e2
      have c1 : PyData.canLayAll0 qs = true := by simpa [PyData.canLay0] using c1
      cases r1 with
      | list h1 h2 h3 h4 =>
        rename_i l o n' its as'
        obtain ⟨cls, dd, data, sl⟩ := o
        simp only at h2 h3
        subst h2 h3
        refine call_meets PySem.F.slot_list_count ⟨_, h1, rfl⟩ PySem.F.entry_list_count (PySem.F.args_list_count_2 _ _) (list_countAt _ _ _ dd sl u (fun y => PyData.eqv (SeqAt.readOf s.heap y) p)) ⟨h1, ?_, ?_⟩
        · exact items_eqAt h4 r2 c1 c2 (by have := Nat.min_le_right (PyData.depthAll qs) p.depth; unfold DEEP at hd; show _ + 1 + _ < _; first | omega | (simp only [Around.under, Around.units] at *; omega))
        · have ec : ((n'.toList.countP (fun y => PyData.eqv (readOf s.heap y) p) : Nat) : Int) = n := by
            rw [← e', ← readsAll_map qs _ _ c1 h4, List.countP_map]; rfl
          rw [ec]
          exact ⟨.int n, H, I.tok _, ⟨_, rfl⟩, q⟩
    · cases e
  · cases e
theorem tCnt_of {K : PySem.W.Frag} {σ : St} {H : Hp} {Q : VK} (h : tV K F0 H0 Ψ (eCnt f1 f2) σ H Q) : tBM K "list" (rCnt K) (tV K F0 H0 Ψ f1) (tCons (tV K F0 H0 Ψ f2) tNil) σ H Q := by
  obtain ⟨F, ev, fi, m⟩ := h
  unfold eCnt at m
  refine ⟨F, ev, fi, ?_⟩
  cases h1 : f1 ev with
  | no => rw [h1] at m; exact m
  | ex C => rw [h1] at m; exact m
  | ok k1 a =>
    rw [h1] at m
    intro F1 x H1 p1
    cases a with
    | lst xs =>
      obtain ⟨l, vs, rfl, hl, rs⟩ := p1.val.rd.lst p1.st.sub
      refine ⟨.inl ⟨rfl, vs, SqL.of hl⟩, F1, ev, fi.later p1.st, ?_⟩
      cases h2 : f2 ev with
      | no => rw [h2] at m; exact m
      | ex C => rw [h2] at m; exact m
      | ok k2 b =>
        rw [h2] at m
        intro F2 y H2 p2
        have m : match toR (cntD xs b) with
          | .ok k d => ∀ F' v H', Post K F H k d F' v H' → Q v H'
          | .ex C => ∀ F' H', Step F0 H0 F' H' → Ψ C H'
          | .no => False := m
        cases h3 : cntD xs b with
        | none => rw [h3] at m; exact m.elim
        | some r =>
          have : ∃ n, r = (.fz, .int n) := by
            unfold cntD at h3
            split at h3
            · split at h3
              · cases h3; exact ⟨_, rfl⟩
              · cases h3
            · cases h3
          obtain ⟨n, rfl⟩ := this
          rw [h3] at m
          have st := p1.st.trans p2.st
          refine ⟨xs, b, y, n, rfl, ?_, (p2.val.rd).rep p2.st.sub, h3, m F2 (.int n) H2 ⟨st, by rw [Val, Rep]⟩⟩
          rw [Rep]
          exact ⟨l, vs, rfl, p2.st.keep _ _ hl, rs.mono (p2.st.up.trans p2.st.sub)⟩
    | _ => exact m.elim
theorem v_cnt (hu : X.A.units + 100 < cLine) (ha : VE X F0 H0 Ψ a f1) (hb : VE X F0 H0 Ψ b f2)
    (hbase : attributeBase a "count" X.env (eval a X.env) = eval a X.env := by rfl)
    (hfew : ((backTo cpos (starEach [b] X.env)).all (fun x => !x.1) && (backToKw cpos (keywordEach [] X.env)).all (fun x => x.1.isSome)
      && decide ([b].length + ([] : List Keyword).length + (if ([] : List Keyword).isEmpty then 0 else 1) < 30)) = true := by rfl)
    (hline : (apos.endLine == cpos.line) = true := by rfl) (hs : starEach [b] X.env = (false, eval b X.env) :: starEach [] X.env := by rfl) (hplain : (backTo cpos (starEach [] X.env)).any (·.1) = false := by rfl) :
    VE X F0 H0 Ψ (.Call (.Attribute a "count" apos) [b] [] cpos) (eCnt f1 f2) :=
  (pe_bm PySem.F.plainAttrs_list PySem.F.slot_list_count PySem.F.type_list_count (mt_cnt hu) ha (pa_cons hb pa_nil hs) hbase hfew hline hs hplain).mono fun _ _ _ h => tCnt_of h
end
end L3
set_option Elab.async false
set_option linter.all false
set_option maxRecDepth 100000
namespace L3
open PySem L2
noncomputable def pickS (x : Str) (i : Int) : List Nat := Builtin.Str.strSliceIndices (some i) none 1 x.length
noncomputable def cutS (x : Str) (i : Int) : Str := if ((pickS x i).length == x.length) = true then x else ⟨((pickS x i).filterMap (x.cps[·]?)).toArray⟩
noncomputable def slSR : R → R → R
  | .ok _ (.str x), r => (match r with
    | .ok _ (.int i) => if (cutS x i).length ≤ LIM then .ok .fz (.str (cutS x i)) else .no
    | .ex C => .ex C
    | _ => .no)
  | .ex C, _ => .ex C
  | _, _ => .no
noncomputable def eSlS (f1 f2 : Ev → R) (ev : Ev) : R := slSR (f1 ev) (f2 ev)
section
variable {X : Cx} {F0 H0 : Hp} {Ψ : Psi} {a b : Expr} {f1 f2 : Ev → R} {p2 pos : Pos}
noncomputable def rSlS : V → Option Int → Option Int → Hp → VK → Prop := fun x lo hi H Q => ∃ z i, x = .str z ∧ lo = some i ∧ hi = none ∧ (cutS z i).length ≤ sizeLine ∧ Q (.str (cutS z i)) H
theorem sl_str : SlR X rSlS := by
  intro pins s σ H x v vl vu lo hi sl Q I rx hs pl pu h
  obtain ⟨z, i, rfl, rfl, rfl, hz, q⟩ := h
  obtain ⟨t, rfl⟩ := rx
  refine ⟨"str", _, PySem.F.slot_str_getitem.lookup, typeIs_str s z t, ?_⟩
  cases pl
  cases pu
  rename_i ti
  refine wpAny_getItem_str_slice (l := some (i, ti)) (u := none) (st := none) hs rfl ?_
  have : sliceMade z t (some (i, ti)) none none = if ((pickS z i).length == z.length) = true then .val (.str z t) else .str ⟨((pickS z i).filterMap (z.cps[·]?)).toArray⟩ := rfl
  rw [this]
  unfold cutS at q hz
  by_cases e : ((pickS z i).length == z.length) = true
  · rw [if_pos e]; rw [if_pos e] at q
    exact ⟨.str z, H, I, ⟨t, rfl⟩, q⟩
  · rw [if_neg e]; rw [if_neg e] at q hz
    exact ⟨hz, .str _, H, I.tok _, ⟨_, rfl⟩, q⟩
theorem v_slS (ha : VE X F0 H0 Ψ a f1) (hb : VE X F0 H0 Ψ b f2) : VE X F0 H0 Ψ (.Subscript a (.Slice (some b) none none p2) pos) (eSlS f1 f2) :=
  (pe_slice sl_str ha (po_some hb) po_none).mono fun σ H Q h => by
    obtain ⟨F, ev, fi, m⟩ := h
    refine ⟨F, ev, fi, ?_⟩
    unfold eSlS at m
    cases h1 : f1 ev with
    | no => rw [h1] at m; exact m
    | ex C => rw [h1] at m; exact m
    | ok k d =>
      rw [h1] at m
      intro F1 x H1 p1
      cases d with
      | str z =>
        refine ⟨F1, ev, fi.later p1.st, ?_⟩
        cases h2 : f2 ev with
        | no => rw [h2] at m; exact m
        | ex C => rw [h2] at m; exact m
        | ok k2 d2 =>
          rw [h2] at m
          intro F2 y H2 p3
          cases d2 with
          | int i =>
            have m : match (if (cutS z i).length ≤ LIM then R.ok .fz (.str (cutS z i)) else .no) with
              | .ok k d => ∀ F' v H', Post X.K F H k d F' v H' → Q v H'
              | .ex C => ∀ F' H', Step F0 H0 F' H' → Ψ C H'
              | .no => False := m
            by_cases hl : (cutS z i).length ≤ LIM
            · rw [if_pos hl] at m
              refine ⟨i, p3.val.rd.int, z, i, p1.val.rd.str, rfl, rfl, lim_le hl, ?_⟩
              exact m F2 _ H2 ⟨p1.st.trans p3.st, by rw [Val, Rep]⟩
            · rw [if_neg hl] at m; exact m.elim
          | _ => exact m.elim
      | _ => exact m.elim
end
end L3
set_option Elab.async false
set_option linter.all false
set_option maxRecDepth 100000
namespace L3
open PySem L2
section
variable {X : Cx} {F0 H0 : Hp} {Ψ : Psi} {e o : Expr} {es : List Expr} {f : Str} {cs : List Str} {g : Ev → R} {fs : Ev → RA} {pos p apos : Pos}
section
variable {P : Program} {w : World} {K : PySem.W.Frag} {mg : Str → Option Value} {base : Heap}
end
end
section
variable {X : Cx} {F0 H0 : Hp} {x C dx : Addr} {ns : List Str} {fs : List (Ev → R)} {f : Ev → R} {fld sl : Str} {e : Expr} {rest : List Stmt} {p apos pos : Pos}
end
section
variable {P : Program} {w : World} {K : PySem.W.Frag} {mg : Str → Option Value} {base : Heap}
end
section
variable {X : Cx} {F0 H0 : Hp} {Ψ : Psi} {k n : Nat} {c : Str} {ns : List Str} {fs : List (Ev → R)} {dv : List D} {as : Ev → RA} {e : Expr} {es : List Expr} {p pos : Pos}
end
end L3
set_option Elab.async false
set_option linter.all false
set_option maxRecDepth 100000
namespace L3
open PySem L2 PySem.W
section
variable {X : Cx} {C : Addr} {x : Str} {p pos : Pos}
end
section
variable {X : Cx} {F0 H0 : Hp} {Ψ : Psi} {e : Expr} {g : Ev → R} {s : Str} {p p2 pos : Pos} {tab : List (Str × Bool)}
end
section
variable {P : Program} {w : World} {K : PySem.W.Frag} {mg : Str → Option Value} {base : Heap}
end
section
variable {X : Cx} {F0 H0 : Hp} {Ψ : Psi} {k n : Nat} {c : Str} {ns ks : List Str} {fs : List (Ev → R)} {as ka : Ev → RA} {g : Ev → R} {e : Expr} {es : List Expr} {kws : List Keyword} {p pos kpos : Pos} {nm : Option Str}
end
end L3
set_option Elab.async false
set_option linter.all false
set_option maxRecDepth 100000
namespace L3
open PySem L2
section
variable {X : Cx} {F0 H0 : Hp} {Ψ : Psi} {a b e : Expr} {f f1 f2 : Ev → R} {p2 pos pos' : Pos}
end
end L3
set_option Elab.async false
set_option linter.all false
set_option maxRecDepth 100000
namespace L3
open PySem L2
section
variable {ev e : Ev} {f f1 f2 c : Ev → R} {fs : Ev → RA} {g h body : Ev → Fl} {k k1 k2 : Kd} {d d1 d2 : D} {C : Addr} {i n : Nat}
@[simp] theorem ev_at0 {α : Type} {a : α} {l : List α} : (a :: l)[0]? = some a := (rfl)
noncomputable def bindFl (r : Fl) (h : Ev → Fl) : Fl := match r with
  | .nx e => h e
  | r => r
@[simp] theorem seqG_eq : seqG g h ev = bindFl (g ev) h := (rfl)
@[simp] theorem bind_nx : bindFl (.nx e) h = h e := (rfl)
@[simp] theorem bind_rt : bindFl (.rt k d) h = .rt k d := (rfl)
@[simp] theorem bind_ct : bindFl (.ct e) h = .ct e := (rfl)
noncomputable def setR (i : Nat) (r : R) (ev : Ev) : Fl := match r with
  | .ok .bo _ => .no
  | .ok k d => .nx (ev.set i (some (k, d)))
  | .ex C => .ex C
  | .no => .no
@[simp] theorem setG_eq : setG i f ev = setR i (f ev) ev := (rfl)
@[simp] theorem setR_fz : setR i (.ok .fz d) ev = .nx (ev.set i (some (.fz, d))) := (rfl)
@[simp] theorem setR_ow : setR i (.ok .ow d) ev = .nx (ev.set i (some (.ow, d))) := (rfl)
noncomputable def retR (r : R) : Fl := match r with
  | .ok .bo _ => .no
  | .ok k d => .rt k d
  | .ex C => .ex C
  | .no => .no
@[simp] theorem retG_eq : retG f ev = retR (f ev) := (rfl)
@[simp] theorem retR_fz : retR (.ok .fz d) = .rt .fz d := (rfl)
@[simp] theorem retR_ow : retR (.ok .ow d) = .rt .ow d := (rfl)
noncomputable def retVR (o : Option (Option (Kd × D))) : Fl := match o with
  | some (some (.fz, d)) => .rt .fz d
  | some (some (.ow, d)) => .rt .ow d
  | _ => .no
@[simp] theorem retVarG_eq : retVarG i ev = retVR ev[i]? := (rfl)
@[simp] theorem retVR_ow : retVR (some (some (.ow, d))) = .rt .ow d := (rfl)
noncomputable def ifFl (r : R) (g h : Ev → Fl) (ev : Ev) : Fl := match r with
  | .ok _ (.bl b) => if b then g ev else h ev
  | .ex C => .ex C
  | _ => .no
@[simp] theorem ifG_eq : ifG c g h ev = ifFl (c ev) g h ev := (rfl)
@[simp] theorem ifFl_t : ifFl (.ok k (.bl true)) g h ev = g ev := (rfl)
@[simp] theorem ifFl_f : ifFl (.ok k (.bl false)) g h ev = h ev := (rfl)
noncomputable def asgR (b : B1) (r : R) (ev : Ev) : Fl := match r with
  | .ok .bo _ => .no
  | .ok _ d => match b d ev with
    | some ev' => .nx ev'
    | none => .no
  | .ex C => .ex C
  | .no => .no
noncomputable def nxO : Option Ev → Fl
  | some e => .nx e
  | none => .no
@[simp] theorem nxO_some : nxO (some e) = .nx e := (rfl)
@[simp] theorem asgG_eq {b : B1} : asgG b f ev = asgR b (f ev) ev := (rfl)
@[simp] theorem asgR_fz {b : B1} : asgR b (.ok .fz d) ev = nxO (b d ev) := by unfold asgR nxO; rfl
@[simp] theorem frzG_eq : frzG i g ev = g (frzEv i ev) := (rfl)
noncomputable def frzO (i : Nat) (o : Option (Option (Kd × D))) (ev : Ev) : Ev := match o with
  | some (some (.ow, d)) => ev.set i (some (.fz, d))
  | _ => ev
@[simp] theorem frzEv_eq : frzEv i ev = frzO i ev[i]? ev := (rfl)
@[simp] theorem frzO_ow : frzO i (some (some (.ow, d))) ev = ev.set i (some (.fz, d)) := (rfl)
@[simp] theorem frzO_fz : frzO i (some (some (.fz, d))) ev = ev := (rfl)
noncomputable def appR (i : Nat) (o : Option (Option (Kd × D))) (f : Ev → R) (ev : Ev) : Fl := match o with
  | some (some (.ow, .lst ds)) => match f ev with
    | .ok .bo _ => .no
    | .ok _ d => if ds.length < LIM then .nx (ev.set i (some (.ow, .lst (ds ++ [d])))) else .no
    | .ex C => .ex C
    | .no => .no
  | _ => .no
noncomputable def appR2 (i : Nat) (ds : List D) (r : R) (ev : Ev) : Fl := match r with
    | .ok .bo _ => .no
    | .ok _ d => if ds.length < LIM then .nx (ev.set i (some (.ow, .lst (ds ++ [d])))) else .no
    | .ex C => .ex C
    | .no => .no
@[simp] theorem appG_eq : appG i f ev = appR i ev[i]? f ev := (rfl)
@[simp] theorem appR_ow {ds : List D} : appR i (some (some (.ow, .lst ds))) f ev = appR2 i ds (f ev) ev := (rfl)
@[simp] theorem appR2_fz {ds : List D} : appR2 i ds (.ok .fz d) ev = if ds.length < LIM then .nx (ev.set i (some (.ow, .lst (ds ++ [d])))) else .no := (rfl)
noncomputable def sitR3 (i : Nat) (ds : List D) (d : D) (o : Option Nat) (ev : Ev) : Fl := match o with
  | some j => .nx (ev.set i (some (.ow, .lst (ds.set j d))))
  | none => .no
noncomputable def sitR2 (i : Nat) (ds : List D) (d : D) (r : R) (ev : Ev) : Fl := match r with
  | .ok _ (.int k) => sitR3 i ds d (ixN ds.length k) ev
  | .ex C => .ex C
  | _ => .no
noncomputable def sitK (i : Nat) (ks : List Key) (xs : List D) (d : D) (o : Option Key) (ev : Ev) : Fl := match o with
  | some k => if ks.length < LIM then .nx (ev.set i (some (.ow, .dK (dPutK ks k) (dPutV ks xs k d)))) else .no
  | none => .no
noncomputable def sitD (i : Nat) (ks : List Key) (xs : List D) (d : D) (r : R) (ev : Ev) : Fl := match r with
  | .ok _ kd => sitK i ks xs d (keyD kd) ev
  | .ex C => .ex C
  | .no => .no
noncomputable def sitKT (i : Nat) (ks : List (List Key)) (xs : List D) (d : D) (o : Option (List Key)) (ev : Ev) : Fl := match o with
  | some k => if ks.length < LIM then .nx (ev.set i (some (.ow, .dT (dPutK ks k) (dPutV ks xs k d)))) else .no
  | none => .no
noncomputable def sitT (i : Nat) (ks : List (List Key)) (xs : List D) (d : D) (r : R) (ev : Ev) : Fl := match r with
  | .ok _ (.tup l) => sitKT i ks xs d (keysD l) ev
  | .ex C => .ex C
  | _ => .no
noncomputable def sitR1 (i : Nat) (d : D) (o : Option (Option (Kd × D))) (f : Ev → R) (ev : Ev) : Fl := match o with
  | some (some (.ow, .lst ds)) => sitR2 i ds d (f ev) ev
  | some (some (.ow, .dK ks xs)) => sitD i ks xs d (f ev) ev
  | some (some (.ow, .dT ks xs)) => sitT i ks xs d (f ev) ev
  | _ => .no
noncomputable def sitR (i : Nat) (f : Ev → R) (r : R) (ev : Ev) : Fl := match r with
  | .ok .bo _ => .no
  | .ok _ d => sitR1 i d ev[i]? f ev
  | .ex C => .ex C
  | .no => .no
@[simp] theorem setItG_eq : setItG i f f2 ev = sitR i f (f2 ev) ev := by
  unfold setItG
  by_cases c : isLst ev[i]? = true
  · rw [if_pos c]
    unfold isLst at c
    split at c
    · rename_i ds e
      unfold setLG sitR
      rw [e]
      generalize f2 ev = r
      cases r with
      | ok k d => cases k <;> rfl
      | ex C => rfl
      | no => rfl
    · cases c
  · rw [if_neg c]
    have key : ∀ o : Option (Option (Kd × D)), isLst o ≠ true → ∀ d, (match o with
      | some (some (.ow, .dK ks xs)) => match f ev with
        | .ok _ kd => match keyD kd with
          | some k => if ks.length < LIM then Fl.nx (ev.set i (some (.ow, .dK (dPutK ks k) (dPutV ks xs k d)))) else .no
          | none => .no
        | .ex C => .ex C
        | .no => .no
      | some (some (.ow, .dT ks xs)) => match f ev with
        | .ok _ (.tup l) => match keysD l with
          | some k => if ks.length < LIM then Fl.nx (ev.set i (some (.ow, .dT (dPutK ks k) (dPutV ks xs k d)))) else .no
          | none => .no
        | .ex C => .ex C
        | _ => .no
      | _ => .no) = sitR1 i d o f ev := fun o ho d => by
      cases o with
      | none => rfl
      | some o =>
        cases o with
        | none => rfl
        | some z =>
          obtain ⟨k, z⟩ := z
          cases k <;> try rfl
          cases z <;> first | rfl | exact absurd rfl ho
    unfold setDG sitR
    generalize f2 ev = r
    cases r with
    | ok k d => cases k with
      | bo => rfl
      | fz => exact key _ c d
      | ow => exact key _ c d
    | ex C => rfl
    | no => rfl
@[simp] theorem sitR_fz : sitR i f (.ok .fz d) ev = sitR1 i d ev[i]? f ev := (rfl)
@[simp] theorem sitR1_ow {ds : List D} : sitR1 i d (some (some (.ow, .lst ds))) f ev = sitR2 i ds d (f ev) ev := (rfl)
@[simp] theorem sitR1_dT {ks : List (List Key)} {xs : List D} : sitR1 i d (some (some (.ow, .dT ks xs))) f ev = sitT i ks xs d (f ev) ev := (rfl)
@[simp] theorem sitT_ok {ks : List (List Key)} {xs : List D} {l : List D} : sitT i ks xs d (.ok k (.tup l)) ev = sitKT i ks xs d (keysD l) ev := (rfl)
theorem sitKT_ok {ks : List (List Key)} {xs : List D} {q : List Key} (h : ks.length < LIM) : sitKT i ks xs d (some q) ev = .nx (ev.set i (some (.ow, .dT (dPutK ks q) (dPutV ks xs q d)))) := if_pos h
@[simp] theorem keyD_int {x : Int} : keyD (.int x) = some (.inl x) := (rfl)
@[simp] theorem keysD_nil : keysD [] = some [] := (rfl)
@[simp] theorem keysD_cons {l : List D} : keysD (d :: l) = (keyD d).bind fun k => (keysD l).map (k :: ·) := (rfl)
@[simp] theorem sitR2_int {ds : List D} {x : Int} : sitR2 i ds d (.ok k (.int x)) ev = sitR3 i ds d (ixN ds.length x) ev := (rfl)
@[simp] theorem sitR3_some {ds : List D} {j : Nat} : sitR3 i ds d (some j) ev = .nx (ev.set i (some (.ow, .lst (ds.set j d)))) := (rfl)
noncomputable def varO (o : Option (Option (Kd × D))) : R := match o with
  | some (some (.fz, d)) => .ok .fz d
  | some (some (.ow, d)) => .ok .bo d
  | _ => .no
@[simp] theorem varR_eq : varR i ev = varO ev[i]? := (rfl)
@[simp] theorem varO_fz : varO (some (some (.fz, d))) = .ok .fz d := (rfl)
@[simp] theorem varO_ow : varO (some (some (.ow, d))) = .ok .bo d := (rfl)
@[simp] theorem conR_eq : conR d ev = .ok .fz d := (rfl)
@[simp] theorem eOp_eq {g : G2} : eOp g f1 f2 ev = op2 g (f1 ev) (f2 ev) := (rfl)
@[simp] theorem op2_ok {g : G2} : op2 g (.ok k1 d1) (.ok k2 d2) = toR (g d1 d2) := (rfl)
@[simp] theorem toR_some : toR (some (k, d)) = .ok k d := (rfl)
@[simp] theorem eAnd_eq : eAnd f1 f2 ev = andR (f1 ev) (f2 ev) := (rfl)
@[simp] theorem eOr_eq : eOr f1 f2 ev = orR (f1 ev) (f2 ev) := (rfl)
@[simp] theorem eNot_eq : eNot f ev = notR (f ev) := (rfl)
@[simp] theorem andR_t {r : R} : andR (.ok k (.bl true)) r = r := (rfl)
@[simp] theorem andR_f {r : R} : andR (.ok k (.bl false)) r = .ok .fz (.bl false) := (rfl)
@[simp] theorem orR_t {r : R} : orR (.ok k (.bl true)) r = .ok .fz (.bl true) := (rfl)
@[simp] theorem andR_b {b c : Bool} : andR (.ok k (.bl b)) (.ok .fz (.bl c)) = .ok .fz (.bl (b && c)) := by cases b <;> rfl
@[simp] theorem orR_b {b c : Bool} : orR (.ok k (.bl b)) (.ok .fz (.bl c)) = .ok .fz (.bl (b || c)) := by cases b <;> rfl
@[simp] theorem notR_b {b : Bool} : notR (.ok k (.bl b)) = .ok .fz (.bl (!b)) := (rfl)
@[simp] theorem aNil_eq : aNil ev = .ok [] := (rfl)
@[simp] theorem aCons_eq : aCons f fs ev = consA (f ev) (fs ev) := (rfl)
@[simp] theorem consA_fz {l : List (Kd × D)} : consA (.ok .fz d) (.ok l) = .ok ((.fz, d) :: l) := (rfl)
@[simp] theorem consA_ow {l : List (Kd × D)} : consA (.ok .ow d) (.ok l) = .ok ((.fz, d) :: l) := (rfl)
@[simp] theorem eTup_eq : eTup fs ev = tupR (fs ev) := (rfl)
@[simp] theorem eLst_eq : eLst fs ev = lstR (fs ev) := (rfl)
noncomputable def tupO (o : Option (List D)) : R := match o with
  | some ds => if ds.length ≤ LIM then .ok .fz (.tup ds) else .no
  | none => .no
noncomputable def lstO (o : Option (List D)) : R := match o with
  | some ds => if ds.length ≤ LIM then .ok .ow (.lst ds) else .no
  | none => .no
@[simp] theorem tupR_ok {l : List (Kd × D)} : tupR (.ok l) = tupO (allFz l) := (rfl)
@[simp] theorem lstR_ok {l : List (Kd × D)} : lstR (.ok l) = lstO (allFz l) := (rfl)
@[simp] theorem allFz_nil : allFz [] = some [] := (rfl)
@[simp] theorem allFz_cons {l : List (Kd × D)} : allFz ((.fz, d) :: l) = (allFz l).map (d :: ·) := (rfl)
@[simp] theorem tupO_2 {a b : D} : tupO (some [a, b]) = .ok .fz (.tup [a, b]) := (rfl)
@[simp] theorem tupO_3 {a b c : D} : tupO (some [a, b, c]) = .ok .fz (.tup [a, b, c]) := (rfl)
@[simp] theorem tupO_4 {a b c e : D} : tupO (some [a, b, c, e]) = .ok .fz (.tup [a, b, c, e]) := (rfl)
@[simp] theorem lstO_0 : lstO (some []) = .ok .ow (.lst []) := (rfl)
@[simp] theorem lstO_1 {a : D} : lstO (some [a]) = .ok .ow (.lst [a]) := (rfl)
@[simp] theorem lstO_2 {a b : D} : lstO (some [a, b]) = .ok .ow (.lst [a, b]) := (rfl)
@[simp] theorem lstO_3 {a b c : D} : lstO (some [a, b, c]) = .ok .ow (.lst [a, b, c]) := (rfl)
@[simp] theorem lstO_4 {a b c e : D} : lstO (some [a, b, c, e]) = .ok .ow (.lst [a, b, c, e]) := (rfl)
@[simp] theorem lstO_5 {a0 a1 a2 a3 a4 : D} : lstO (some [a0, a1, a2, a3, a4]) = .ok .ow (.lst [a0, a1, a2, a3, a4]) := (rfl)
@[simp] theorem eCall_eq {g : GN} : eCall g fs ev = callR g (fs ev) := (rfl)
@[simp] theorem callR_ok {g : GN} {l : List (Kd × D)} : callR g (.ok l) = toR (g (l.map (·.2))) := (rfl)
noncomputable def outK (r : R) : R := match r with
  | .ok .fz d => .ok .fz d
  | .ok .ow d => .ok .ow d
  | _ => .no
noncomputable def outS (r : R) : R := match r with
  | .ok .bo _ => .no
  | .ok _ d => if scalD d then .ok .fz d else .no
  | _ => .no
noncomputable def fnO (φ : List D → R) (o : Option (List D)) (l : List (Kd × D)) : R := match o with
  | some ds => outK (φ ds)
  | none => outS (φ (l.map (·.2)))
@[simp] theorem eFn_eq {φ : List D → R} : eFn n φ fs ev = fnR n φ (fs ev) := (rfl)
theorem fnR_ok {φ : List D → R} {l : List (Kd × D)} (h : l.length = n) : fnR n φ (.ok l) = fnO φ (allFz l) l := by
  simp only [fnR, if_pos h]
  unfold fnO outK outS
  cases allFz l <;> rfl
@[simp] theorem fnR_1 {φ : List D → R} {a : Kd × D} : fnR 1 φ (.ok [a]) = fnO φ (allFz [a]) [a] := (fnR_ok rfl)
@[simp] theorem fnR_2 {φ : List D → R} {a b : Kd × D} : fnR 2 φ (.ok [a, b]) = fnO φ (allFz [a, b]) [a, b] := (fnR_ok rfl)
@[simp] theorem fnR_3 {φ : List D → R} {a b c : Kd × D} : fnR 3 φ (.ok [a, b, c]) = fnO φ (allFz [a, b, c]) [a, b, c] := (fnR_ok rfl)
@[simp] theorem fnR_4 {φ : List D → R} {a b c u : Kd × D} : fnR 4 φ (.ok [a, b, c, u]) = fnO φ (allFz [a, b, c, u]) [a, b, c, u] := (fnR_ok rfl)
@[simp] theorem fnR_5 {φ : List D → R} {a b c u v : Kd × D} : fnR 5 φ (.ok [a, b, c, u, v]) = fnO φ (allFz [a, b, c, u, v]) [a, b, c, u, v] := (fnR_ok rfl)
@[simp] theorem fnO_some {φ : List D → R} {ds : List D} {l : List (Kd × D)} : fnO φ (some ds) l = outK (φ ds) := (rfl)
@[simp] theorem outK_fz : outK (.ok .fz d) = .ok .fz d := (rfl)
@[simp] theorem outK_ow : outK (.ok .ow d) = .ok .ow d := (rfl)
noncomputable def forO (r : RI) (b : B1) (body : Ev → Fl) (ev : Ev) : Fl := match r with
  | .ok ds => forE b body ds ev
  | .ex C => .ex C
  | .no => .no
@[simp] theorem forG_eq {fi : Ev → RI} {b : B1} : forG fi b body ev = forO (fi ev) b body ev := (rfl)
@[simp] theorem forO_ok {ds : List D} {b : B1} : forO (.ok ds) b body ev = forE b body ds ev := (rfl)
@[simp] theorem iLst_eq : iLst f ev = itR (f ev) := (rfl)
@[simp] theorem itR_fz {ds : List D} : itR (.ok .fz (.lst ds)) = .ok ds := (rfl)
@[simp] theorem itR_ow {ds : List D} : itR (.ok .ow (.lst ds)) = .ok ds := (rfl)
@[simp] theorem iRngW_eq : iRngW fs ev = rngW (fs ev) := (rfl)
@[simp] theorem rngW_eq {j : Int} (h : j < 4611686018427387904) : rngW (.ok [(k, .int j)]) = .ok (rangeD 0 j.toNat) := (if_pos h)
noncomputable def compO (b : B1) (c e : Ev → R) (ev : Ev) (r : RI) : R := match r with
  | .ok ds => if ds.length < LIM then (match compE b c e ev ds with
    | some l => .ok .ow (.lst l)
    | none => .no) else .no
  | .ex C => .ex C
  | .no => .no
@[simp] theorem eComp_eq {cap : List (Option Nat)} {fi : Ev → RI} {b : B1} {c e : Ev → R} : eComp cap fi b c e ev = compO b c e (capE cap ev) (fi ev) := by unfold eComp compR compO; rfl
theorem compE_fm {b : B1} {c e : Ev → R} {α : Type} {enc : α → D} {p : α → Bool} {v : α → D} : ∀ {l : List α}, (∀ x ∈ l, ∃ ev1, b (enc x) ev = some ev1 ∧ (∃ k, c ev1 = .ok k (.bl (p x))) ∧ (p x = true → ∃ k, k ≠ Kd.bo ∧ e ev1 = .ok k (v x))) →
    compE b c e ev (l.map enc) = some ((l.filter p).map v)
  | [], _ => rfl
  | x :: l, hl => by
    obtain ⟨ev1, h1, ⟨k, h2⟩, h3⟩ := hl x (by simp)
    have ih := compE_fm (b := b) (c := c) (e := e) (enc := enc) (p := p) (v := v) (l := l) fun y hy => hl y (by simp [hy])
    rw [List.map_cons, compE]
    simp only [h1, h2]
    by_cases hp : p x = true
    · obtain ⟨k', hk, h4⟩ := h3 hp
      rw [if_pos hp, h4, List.filter_cons_of_pos hp, List.map_cons, ih]
      cases k' with
      | bo => exact absurd rfl hk
      | fz => rfl
      | ow => rfl
    · rw [if_neg hp, List.filter_cons_of_neg hp, ih]
theorem compO_fm {b : B1} {c e : Ev → R} {α : Type} {enc : α → D} {l : List α} (p : α → Bool) (v : α → D) (hn : l.length < LIM) (h : ∀ x ∈ l, ∃ ev1, b (enc x) ev = some ev1 ∧ (∃ k, c ev1 = .ok k (.bl (p x))) ∧ (p x = true → ∃ k, k ≠ Kd.bo ∧ e ev1 = .ok k (v x))) :
    compO b c e ev (.ok (l.map enc)) = .ok .ow (.lst ((l.filter p).map v)) := by
  simp only [compO]
  rw [compE_fm h]
  simp [hn]
@[simp] theorem capE_nil : capE [] ev = [] := (rfl)
@[simp] theorem capE_none {cap : List (Option Nat)} : capE (none :: cap) ev = none :: capE cap ev := (rfl)
noncomputable def capO (o : Option (Option (Kd × D))) : Option (Kd × D) := match o.join with
  | some (.fz, d) => some (.fz, d)
  | _ => none
@[simp] theorem capE_some {cap : List (Option Nat)} {j : Nat} : capE (some j :: cap) ev = capO ev[j]? :: capE cap ev := (rfl)
@[simp] theorem capO_fz : capO (some (some (.fz, d))) = some (.fz, d) := (rfl)
noncomputable def runO (r : Fl) : R := match r with
  | .rt .bo _ => .no
  | .rt k d => .ok k d
  | .nx _ => .ok .fz .non
  | .ex C => .ex C
  | _ => .no
theorem runF_eq {ds : List D} : runF n g ds = runO (g (ev0 n ds)) := rfl
@[simp] theorem runO_fz : runO (.rt .fz d) = .ok .fz d := (rfl)
@[simp] theorem addD_int {x y : Int} : addD (.int x) (.int y) = some (.fz, .int (x + y)) := (rfl)
@[simp] theorem addD_str {x y : Str} (h : x.length + y.length ≤ 1000000) : addD (.str x) (.str y) = some (.fz, .str (x ++ y)) := (if_pos h)
@[simp] theorem subD_int {x y : Int} : subD (.int x) (.int y) = some (.fz, .int (x - y)) := (rfl)
@[simp] theorem mulD_ok {x y : Int} (h : (-(2 ^ 64) < x ∧ x < 2 ^ 64) ∨ (-(2 ^ 64) < y ∧ y < 2 ^ 64)) : mulD (.int x) (.int y) = some (.fz, .int (x * y)) := by
  have : mulL (.int x) (.int y) = some (.fz, .int (x * y)) := if_pos h
  simp [mulD, this]
@[simp] theorem mulD_lst {x : List D} {y : Int} (h : -(2 ^ 63) ≤ y ∧ y < 2 ^ 63 ∧ x.length * y.toNat ≤ LIM) : mulD (.lst x) (.int y) = some (.ow, .lst (List.replicate y.toNat x).flatten) := by
  have : mulL (.lst x) (.int y) = some (.ow, .lst (List.replicate y.toNat x).flatten) := if_pos h
  simp [mulD, this]
@[simp] theorem mulD_str {x : Str} {y : Int} (h : 0 ≤ y ∧ y ≤ 1000 ∧ x.length ≤ 1000) : mulD (.str x) (.int y) = some (.fz, .str (Txt.mul x y)) := by
  have : mulS (.str x) (.int y) = some (.fz, .str (Txt.mul x y)) := if_pos h
  simp [mulD, this, mulL]
@[simp] theorem fdivD_ok {x y : Int} (h : 0 < y ∧ y < 2 ^ 200) : fdivD (.int x) (.int y) = some (.fz, .int (x / y)) := (if_pos h)
@[simp] theorem modD_ok {x y : Int} (h : 0 < y) : modD (.int x) (.int y) = some (.fz, .int (x % y)) := (if_pos h)
@[simp] theorem powD_ok {x y : Int} (h : 0 ≤ y ∧ y ≤ 1000000 ∧ x.natAbs < 2 ^ 64) : powD (.int x) (.int y) = some (.fz, .int (x ^ y.toNat)) := (if_pos h)
@[simp] theorem ltD_int {x y : Int} : ltD (.int x) (.int y) = some (.fz, .bl (decide (x < y))) := (rfl)
@[simp] theorem leD_int {x y : Int} : leD (.int x) (.int y) = some (.fz, .bl (decide (x ≤ y))) := (rfl)
@[simp] theorem gtD_int {x y : Int} : gtD (.int x) (.int y) = some (.fz, .bl (decide (y < x))) := (rfl)
@[simp] theorem geD_int {x y : Int} : geD (.int x) (.int y) = some (.fz, .bl (decide (y ≤ x))) := (rfl)
@[simp] theorem isND_nn : isND .non .non = some (.fz, .bl true) := (rfl)
@[simp] theorem isND_int {x : Int} : isND (.int x) .non = some (.fz, .bl false) := (rfl)
@[simp] theorem notND_nn : notND .non .non = some (.fz, .bl false) := (rfl)
@[simp] theorem notND_int {x : Int} : notND (.int x) .non = some (.fz, .bl true) := (rfl)
@[simp] theorem idxD_lst {x : List D} {j : Int} : idxD (.lst x) (.int j) = (atI x j).map fun d => (.fz, d) := by
  simp [idxD, getK, lookD, idxL]
@[simp] theorem idxD_scr {x : List D} {j : Int} : idxD (.scr x) (.int j) = (atI x j).map fun d => (.fz, d) := by
  simp [idxD, getK, lookD, idxL]
@[simp] theorem idxD_tup {x : List D} {j : Int} : idxD (.tup x) (.int j) = (atI x j).map fun d => (.fz, d) := by
  simp [idxD, getK, lookD, idxL]
@[simp] theorem idxD_dT {ks : List (List Key)} {xs l : List D} {q : List Key} (h : keysD l = some q) : idxD (.dT ks xs) (.tup l) = (dGet ks xs q).map fun d => (.fz, d) := by
  simp only [idxD, getK, lookD, idxL, h, Option.map_some, Option.or]
  cases dGet ks xs q <;> rfl
@[simp] theorem eUn_eq {g : G1} : eUn g f ev = un1 g (f ev) := (rfl)
@[simp] theorem un1_ok {g : G1} : un1 g (.ok k d) = toR (g d) := (rfl)
@[simp] theorem negD_int {x : Int} : negD (.int x) = some (.fz, .int (-x)) := (rfl)
@[simp] theorem eChain_eq {g g' : G2} {f3 : Ev → R} : eChain g g' f1 f2 f3 ev = chnR g g' (f1 ev) (f2 ev) (f3 ev) := (rfl)
noncomputable def chn2 (g' : G2) (o : Option (Kd × D)) (r2 r3 : R) : R := match o with
  | some (_, .bl t) => if t then op2 g' r2 r3 else .ok .fz (.bl false)
  | _ => .no
@[simp] theorem chnR_ok {g g' : G2} {r3 : R} : chnR g g' (.ok k1 d1) (.ok k2 d2) r3 = chn2 g' (g d1 d2) (.ok k2 d2) r3 := (rfl)
@[simp] theorem chn2_t {g' : G2} {r2 r3 : R} : chn2 g' (some (k, .bl true)) r2 r3 = op2 g' r2 r3 := (rfl)
@[simp] theorem stepD_m {xs : List D} : stepD (.lst xs) (.int (-1)) = some (.ow, .lst xs.reverse) := (rfl)
@[simp] theorem eSl_eq {fl fh : Ev → RO} : eSl f fl fh ev = slR (f ev) (fl ev) (fh ev) := (rfl)
@[simp] theorem oNo_eq : oNo ev = .ok none := (rfl)
@[simp] theorem oSome_eq : oSome f ev = oS (f ev) := (rfl)
@[simp] theorem oS_int {x : Int} : oS (.ok k (.int x)) = .ok (some x) := (rfl)
@[simp] theorem slR_ok {l h : Option Int} : slR (.ok k d) (.ok l) (.ok h) = toR (slD d l h) := (rfl)
@[simp] theorem absD_int {x : Int} : absD [.int x] = some (.fz, .int (if x < 0 then -x else x)) := (rfl)
@[simp] theorem lenD_scr {x : List D} : lenD [.scr x] = some (.fz, .int x.length) := (rfl)
@[simp] theorem listD_lst {x : List D} : listD [.lst x] = some (.ow, .lst x) := (rfl)
@[simp] theorem min2_eq {x y : Int} : min2D [.int x, .int y] = some (.fz, .int (min x y)) := by
  show some (Kd.fz, D.int (if y < x then y else x)) = _
  congr 3; split <;> omega
@[simp] theorem max2_eq {x y : Int} : max2D [.int x, .int y] = some (.fz, .int (max x y)) := by
  show some (Kd.fz, D.int (if y > x then y else x)) = _
  congr 3; split <;> omega
end
section
variable {b : B1} {body : Ev → Fl}
theorem forE_by (Q : Fl → Prop) (I : List D → Ev → Prop) (step : ∀ d ds ev, I (d :: ds) ev → ∃ ev1, b d ev = some ev1 ∧ match body ev1 with
      | .nx e => I ds e
      | .ct e => I ds e
      | .bk e => Q (.nx e)
      | r => Q r) (fin : ∀ ev, I [] ev → Q (.nx ev)) : ∀ {ds : List D} {ev : Ev}, I ds ev → Q (forE b body ds ev)
  | [], ev, h => fin ev h
  | d :: ds, ev, h => by
    obtain ⟨ev1, e1, m⟩ := step d ds ev h
    rw [forE, e1]
    dsimp only
    cases q : body ev1 with
    | nx e => rw [q] at m; exact forE_by Q I step fin m
    | ct e => rw [q] at m; exact forE_by Q I step fin m
    | bk e => rw [q] at m; exact m
    | rt k d => rw [q] at m; exact m
    | ex C => rw [q] at m; exact m
    | no => rw [q] at m; exact m
theorem rangeD_eq (lo : Int) (n : Nat) : rangeD lo n = (List.range n).map fun (i : Nat) => D.int (lo + i) := rfl
end
theorem law_sp {K : PySem.W.Frag} {H : Hp} {a : Addr} {ns : List Int} {φ : List D → R} {E : XK} (hS : SqL K H a (ns.map V.int)) (h : φ [.scr (ns.map D.int)] = .ok .fz (.bl true)) : spV0 K φ 1 [.ref a] H (fun v _ => v = .bl true) E := by
  refine ⟨H, [.scr (ns.map D.int)], .refl _, .cons ?_ .nil, rfl, ?_⟩
  · rw [Rep]
    refine ⟨a, _, rfl, hS, ?_⟩
    clear hS h
    induction ns with
    | nil => exact .nil
    | cons x l ih => exact .cons (by rw [Rep]) ih
  · rw [h]
    refine ⟨by simp, fun F' v H' p => p.val.rd.bl⟩
end L3
set_option Elab.async false
set_option linter.all false
set_option maxRecDepth 100000
namespace L3
open PySem L2
mutual
/-- plain: no truths, no script; at most n deep -/
noncomputable def pl : Nat → D → Bool
  | _, .non => true
  | _, .int _ => true
  | _, .str x => PyData.strOk x
  | n + 1, .tup xs => plL n xs
  | n + 1, .lst xs => plL n xs
  | _, _ => false
noncomputable def plL : Nat → List D → Bool
  | _, [] => true
  | n, d :: ds => pl n d && plL n ds
end
theorem plL_iff {n : Nat} : ∀ {l : List D}, plL n l = true ↔ ∀ d ∈ l, pl n d = true
  | [] => by simp [plL]
  | d :: l => by simp [plL, plL_iff (l := l)]
mutual
theorem pl_up : ∀ {n : Nat} {d : D}, pl n d = true → pl (n + 1) d = true
  | _, .non, _ => rfl
  | _, .int _, _ => rfl
  | _, .str _, h => by simp only [pl] at h ⊢; exact h
  | n + 1, .tup xs, h => by simp only [pl] at h ⊢; exact plL_ups h
  | n + 1, .lst xs, h => by simp only [pl] at h ⊢; exact plL_ups h
  | 0, .tup _, h => by simp [pl] at h
  | 0, .lst _, h => by simp [pl] at h
  | _, .bl _, h => by simp [pl] at h
  | _, .dK _ _, h => by simp [pl] at h
  | _, .dT _ _, h => by simp [pl] at h
  | _, .obj _ _ _, h => by simp [pl] at h
  | _, .scr _, h => by simp [pl] at h
  | _, .ty _, h => by simp [pl] at h
theorem plL_ups : ∀ {n : Nat} {l : List D}, plL n l = true → plL (n + 1) l = true
  | _, [], _ => by simp [plL]
  | _, d :: l, h => by
    simp only [plL, Bool.and_eq_true] at h ⊢
    exact ⟨pl_up h.1, plL_ups h.2⟩
end
mutual
theorem py_of : ∀ {n : Nat} {d : D}, pl n d = true → ∃ p, py d = some p ∧ p.depth ≤ n
  | _, .non, _ => ⟨.none, rfl, by simp [PyData.depth]⟩
  | _, .int i, _ => ⟨.int i, rfl, by simp [PyData.depth]⟩
  | _, .str x, h => ⟨.str x, by simp only [pl] at h; simp [py, h], by simp [PyData.depth]⟩
  | n + 1, .tup xs, h => by
    simp only [pl] at h
    obtain ⟨ps, e, hd⟩ := pyL_of h
    exact ⟨.tuple ps, by simp [py, e], by simp only [PyData.depth]; omega⟩
  | n + 1, .lst xs, h => by
    simp only [pl] at h
    obtain ⟨ps, e, hd⟩ := pyL_of h
    exact ⟨.list ps, by simp [py, e], by simp only [PyData.depth]; omega⟩
  | 0, .tup _, h => by simp [pl] at h
  | 0, .lst _, h => by simp [pl] at h
  | _, .bl _, h => by simp [pl] at h
  | _, .dK _ _, h => by simp [pl] at h
  | _, .dT _ _, h => by simp [pl] at h
  | _, .obj _ _ _, h => by simp [pl] at h
  | _, .scr _, h => by simp [pl] at h
  | _, .ty _, h => by simp [pl] at h
theorem pyL_of : ∀ {n : Nat} {l : List D}, plL n l = true → ∃ ps, pyL l = some ps ∧ PyData.depthAll ps ≤ n
  | n, [], _ => ⟨[], rfl, by simp [PyData.depthAll]⟩
  | n, d :: l, h => by
    simp only [plL, Bool.and_eq_true] at h
    obtain ⟨p, e1, h1⟩ := py_of h.1
    obtain ⟨ps, e2, h2⟩ := pyL_of h.2
    exact ⟨p :: ps, by simp [pyL, e1, e2], by simp only [PyData.depthAll]; omega⟩
end
mutual
theorem eqv_pl : ∀ {n m : Nat} {a b : D} {p q : PyData}, pl n a = true → pl m b = true → py a = some p → py b = some q → (p.eqv q = true ↔ a = b)
  | n, m, a, b, p, q, ha, hb, ea, eb => by
    cases a <;> (try (simp [pl] at ha; done)) <;> cases b <;> (try (simp [pl] at hb; done)) <;> (try (cases n <;> simp [pl] at ha)) <;> (try (cases m <;> simp [pl] at hb)) <;> simp only [py, Option.map_eq_some_iff] at ea eb
    all_goals (try rw [if_pos hb] at eb)
    all_goals (try rw [if_pos ha] at ea)
    all_goals (try (cases ea; cases eb; simp [PyData.eqv]; done))
    all_goals (try (obtain ⟨ps, e1, rfl⟩ := ea))
    all_goals (try (obtain ⟨qs, e2, rfl⟩ := eb))
    all_goals (try (cases ea))
    all_goals (try (cases eb))
    all_goals simp only [PyData.eqv]
    all_goals (first | (rw [eqv_plL ha hb e1 e2]; simp; done) | (simp; done))
theorem eqv_plL : ∀ {n m : Nat} {a b : List D} {p q : List PyData}, plL n a = true → plL m b = true → pyL a = some p → pyL b = some q → (PyData.eqvAll p q = true ↔ a = b)
  | n, m, [], [], p, q, _, _, ea, eb => by cases ea; cases eb; simp [PyData.eqvAll]
  | n, m, [], y :: b, p, q, _, hb, ea, eb => by
    cases ea
    simp only [pyL] at eb
    cases e1 : py y with
    | none => rw [e1] at eb; cases eb
    | some u => rw [e1] at eb; cases e2 : pyL b with
      | none => rw [e2] at eb; cases eb
      | some us => rw [e2] at eb; cases eb; simp [PyData.eqvAll]
  | n, m, x :: a, [], p, q, ha, _, ea, eb => by
    cases eb
    simp only [pyL] at ea
    cases e1 : py x with
    | none => rw [e1] at ea; cases ea
    | some u => rw [e1] at ea; cases e2 : pyL a with
      | none => rw [e2] at ea; cases ea
      | some us => rw [e2] at ea; cases ea; simp [PyData.eqvAll]
  | n, m, x :: a, y :: b, p, q, ha, hb, ea, eb => by
    simp only [plL, Bool.and_eq_true] at ha hb
    obtain ⟨p1, e1, _⟩ := py_of ha.1
    obtain ⟨ps, e2, _⟩ := pyL_of ha.2
    obtain ⟨q1, e3, _⟩ := py_of hb.1
    obtain ⟨qs, e4, _⟩ := pyL_of hb.2
    simp only [pyL, e1, e2, Option.bind_some, Option.map_some, Option.some.injEq] at ea
    simp only [pyL, e3, e4, Option.bind_some, Option.map_some, Option.some.injEq] at eb
    subst ea; subst eb
    simp only [PyData.eqvAll, Bool.and_eq_true, eqv_pl ha.1 hb.1 e1 e3, eqv_plL ha.2 hb.2 e2 e4, List.cons.injEq]
end
noncomputable instance instDecD : DecidableEq D := fun a b => Classical.propDecidable (a = b)
theorem eqD_pl {a b : D} (ha : pl 60 a = true) (hb : pl 60 b = true) : eqD a b = some (.fz, .bl (decide (a = b))) := by
  obtain ⟨p, e1, h1⟩ := py_of ha
  obtain ⟨q, e2, _⟩ := py_of hb
  have h1' : p.depth ≤ DEEP := h1
  simp only [eqD, e1, e2, if_pos h1']
  congr 3
  rw [Bool.eq_iff_iff, eqv_pl ha hb e1 e2, decide_eq_true_iff]
theorem neD_pl {a b : D} (ha : pl 60 a = true) (hb : pl 60 b = true) : neD a b = some (.fz, .bl (decide (a ≠ b))) := by
  obtain ⟨p, e1, h1⟩ := py_of ha
  obtain ⟨q, e2, _⟩ := py_of hb
  have h1' : p.depth ≤ DEEP := h1
  simp only [neD, e1, e2, if_pos h1']
  congr 3
  rw [Bool.eq_iff_iff, decide_eq_true_iff, Bool.not_eq_true', ← Bool.not_eq_true, eqv_pl ha hb e1 e2]
theorem any_pl {n m : Nat} {a : D} {p : PyData} (ha : pl n a = true) (ea : py a = some p) : ∀ {l : List D} {qs : List PyData}, plL m l = true → pyL l = some qs → ((qs.any fun q => q.eqv p) = true ↔ a ∈ l)
  | [], _, _, e => by cases e; simp
  | d :: l, qs, h, e => by
    simp only [plL, Bool.and_eq_true] at h
    obtain ⟨q1, e3, _⟩ := py_of h.1
    obtain ⟨qs', e4, _⟩ := pyL_of h.2
    simp only [pyL, e3, e4, Option.bind_some, Option.map_some, Option.some.injEq] at e
    subst e
    rw [List.any_cons, Bool.or_eq_true, eqv_pl h.1 ha e3 ea, any_pl ha ea h.2 e4, List.mem_cons]
    exact or_congr eq_comm Iff.rfl
theorem inD_pl {a b : D} {xs : List D} (hx : itemsD b = some xs) (ha : pl 60 a = true) (hb : plL 60 xs = true) : inD a b = some (.fz, .bl (decide (a ∈ xs))) := by
  obtain ⟨p, e1, h1⟩ := py_of ha
  obtain ⟨qs, e2, _⟩ := pyL_of hb
  have h1' : p.depth ≤ DEEP := h1
  have : inL a b = some (.fz, .bl (decide (a ∈ xs))) := by
    simp only [inL, e1, hx, Option.bind_some, e2, if_pos h1']
    congr 3
    rw [Bool.eq_iff_iff, any_pl ha e1 hb e2, decide_eq_true_iff]
  simp [inD, this]
theorem notInD_pl {a b : D} {xs : List D} (hx : itemsD b = some xs) (ha : pl 60 a = true) (hb : plL 60 xs = true) : notInD a b = some (.fz, .bl (decide (a ∉ xs))) := by
  obtain ⟨p, e1, h1⟩ := py_of ha
  obtain ⟨qs, e2, _⟩ := pyL_of hb
  have h1' : p.depth ≤ DEEP := h1
  have : notInL a b = some (.fz, .bl (decide (a ∉ xs))) := by
    simp only [notInL, e1, hx, Option.bind_some, e2, if_pos h1']
    congr 3
    rw [Bool.eq_iff_iff, decide_eq_true_iff, Bool.not_eq_true', ← Bool.not_eq_true, any_pl ha e1 hb e2]
  simp [notInD, this]
theorem inD_dT {ks : List (List Key)} {xs l : List D} {q : List Key} (h : keysD l = some q) : inD (.tup l) (.dT ks xs) = some (.fz, .bl (dGet ks xs q).isSome) := by
  have : inL (.tup l) (.dT ks xs) = none := by simp only [inL, itemsD, Option.bind_none]; split <;> simp_all
  simp [inD, this, hasK, lookD, h]
theorem notInD_dT {ks : List (List Key)} {xs l : List D} {q : List Key} (h : keysD l = some q) : notInD (.tup l) (.dT ks xs) = some (.fz, .bl !(dGet ks xs q).isSome) := by
  have : notInL (.tup l) (.dT ks xs) = none := by simp only [notInL, itemsD, Option.bind_none]; split <;> simp_all
  simp [notInD, this, hasNotK, lookD, h]
@[simp] theorem eqD_int {x y : Int} : eqD (.int x) (.int y) = some (.fz, .bl (decide (x = y))) := by
  rw [eqD_pl (by simp [pl]) (by simp [pl])]
  congr 3
  rw [Bool.eq_iff_iff, decide_eq_true_iff, decide_eq_true_iff]; simp
theorem atI_of {xs : List D} {i : Nat} {d : D} (h : xs[i]? = some d) : atI xs (i : Int) = some d := atI_nat h
@[simp] theorem atI_0 {d : D} {l : List D} : atI (d :: l) 0 = some d := atI_nat (j := 0) rfl
@[simp] theorem atI_1 {a d : D} {l : List D} : atI (a :: d :: l) 1 = some d := atI_nat (j := 1) rfl
@[simp] theorem atI_2 {a b d : D} {l : List D} : atI (a :: b :: d :: l) 2 = some d := atI_nat (j := 2) rfl
@[simp] theorem atI_3 {a b c d : D} {l : List D} : atI (a :: b :: c :: d :: l) 3 = some d := atI_nat (j := 3) rfl
theorem ixN_of {n i : Nat} (h : i < n) : ixN n (i : Int) = some i := by
  simp [ixN]; omega
end L3
set_option Elab.async false
set_option linter.all false
set_option maxRecDepth 100000
namespace L3
open PySem L2
noncomputable def Wp (r : Fl) (Q : Fl → Prop) : Prop := Q r
section
variable {r : Fl} {Q : Fl → Prop} {ev e : Ev} {g h h' : Ev → Fl} {k : Kd} {d : D} {C : Addr} {b : B1} {body : Ev → Fl} {ds : List D}
@[simp] theorem bind_end : bindFl r .nx = r := by cases r <;> rfl
noncomputable def loopQ (I : Ev → Prop) (h : Ev → Fl) (Q : Fl → Prop) : Fl → Prop
  | .nx e => I e
  | .ct e => I e
  | .bk e => Wp (h e) Q
  | r => Q r
@[simp] theorem loop_nx {I : Ev → Prop} : Wp (.nx e) (loopQ I h Q) = I e := (rfl)
@[simp] theorem loop_ct {I : Ev → Prop} : Wp (.ct e) (loopQ I h Q) = I e := (rfl)
@[simp] theorem loop_rt {I : Ev → Prop} : Wp (.rt k d) (loopQ I h Q) = Wp (.rt k d) Q := (rfl)
theorem wp_for (I : List D → Ev → Prop) (step : ∀ d ds ev, I (d :: ds) ev → ∃ ev1, b d ev = some ev1 ∧ Wp (body ev1) (loopQ (I ds) h Q)) (fin : ∀ ev, I [] ev → Wp (h ev) Q) (h0 : I ds ev) : Wp (bindFl (forE b body ds ev) h) Q := by
  refine forE_by (fun r => Wp (bindFl r h) Q) I (fun d ds ev hi => ?_) (fun ev hi => fin ev hi) h0
  obtain ⟨ev1, e1, m⟩ := step d ds ev hi
  refine ⟨ev1, e1, ?_⟩
  cases q : body ev1 <;> rw [q] at m <;> exact m
theorem wp_forM {β : Type} {enc : β → D} {l : List β} (I : List β → Ev → Prop) (step : ∀ x xs ev, (∃ pre, l = pre ++ x :: xs) → I (x :: xs) ev → ∃ ev1, b (enc x) ev = some ev1 ∧ Wp (body ev1) (loopQ (I xs) h Q)) (fin : ∀ ev, I [] ev → Wp (h ev) Q) (h0 : I l ev) : Wp (bindFl (forE b body (l.map enc) ev) h) Q := by
  refine wp_for (fun ds ev => ∃ xs, ds = xs.map enc ∧ (∃ pre, l = pre ++ xs) ∧ I xs ev) ?_ ?_ ⟨l, rfl, ⟨[], rfl⟩, h0⟩
  · rintro d ds ev ⟨xs, e, ⟨pre, hp⟩, hi⟩
    cases xs with
    | nil => simp at e
    | cons x xs =>
      simp at e
      obtain ⟨rfl, rfl⟩ := e
      obtain ⟨ev1, e1, w⟩ := step x xs ev ⟨pre, hp⟩ hi
      refine ⟨ev1, e1, ?_⟩
      revert w
      cases body ev1 with
      | nx e => exact fun w => ⟨xs, rfl, ⟨pre ++ [x], by simp [hp]⟩, w⟩
      | ct e => exact fun w => ⟨xs, rfl, ⟨pre ++ [x], by simp [hp]⟩, w⟩
      | _ => exact id
  · rintro ev ⟨xs, e, _, hi⟩
    cases xs with
    | nil => exact fin ev hi
    | cons x xs => simp at e
theorem wp_forM1 {β : Type} {enc : β → D} {l : List β} (I : List β → Ev → Prop) (step : ∀ x xs ev, (∃ pre, l = pre ++ x :: xs) → I (x :: xs) ev → ∃ ev1, b (enc x) ev = some ev1 ∧ Wp (body ev1) (loopQ (I xs) .nx Q)) (fin : ∀ ev, I [] ev → Wp (.nx ev) Q) (h0 : I l ev) : Wp (forE b body (l.map enc) ev) Q := by
  have := wp_forM (b := b) (body := body) (enc := enc) (l := l) (ev := ev) (h := .nx) (Q := Q) I step fin h0
  rwa [bind_end] at this
theorem wp_if {t : Bool} (h1 : t = true → Wp (bindFl (g ev) h') Q) (h2 : t = false → Wp (bindFl (h ev) h') Q) : Wp (bindFl (ifFl (.ok k (.bl t)) g h ev) h') Q := by
  cases t with
  | true => exact h1 rfl
  | false => exact h2 rfl
theorem wp_if1 {t : Bool} (h1 : t = true → Wp (g ev) Q) (h2 : t = false → Wp (h ev) Q) : Wp (ifFl (.ok k (.bl t)) g h ev) Q := by
  cases t with
  | true => exact h1 rfl
  | false => exact h2 rfl
theorem wp_while {c : Ev → R} (I : Nat → Ev → Prop) (step : ∀ m ev, I m ev → (∃ k, c ev = .ok k (.bl true) ∧ Wp (body ev) (loopQ (fun e => ∃ m', m' < m ∧ I m' e) h Q)) ∨ (∃ k, c ev = .ok k (.bl false) ∧ Wp (h ev) Q)) :
    ∀ {n m : Nat} {ev : Ev}, I m ev → m < n → Wp (bindFl (whlE c body n ev) h) Q
  | 0, m, ev, _, hm => by omega
  | n + 1, m, ev, hi, hm => by
    rcases step m ev hi with ⟨k, e, w⟩ | ⟨k, e, w⟩
    · rw [whlE, e]
      dsimp only
      rw [if_pos rfl]
      cases q : body ev with
      | nx e => rw [q] at w; obtain ⟨m', h1, h2⟩ := w; exact wp_while (n := n) I step h2 (by omega)
      | ct e => rw [q] at w; obtain ⟨m', h1, h2⟩ := w; exact wp_while (n := n) I step h2 (by omega)
      | bk e => rw [q] at w; exact w
      | rt k d => rw [q] at w; exact w
      | ex C => rw [q] at w; exact w
      | no => rw [q] at w; exact w
    · rw [whlE, e]; exact w
noncomputable def runQ (P : R → Prop) (r : Fl) : Prop := P (runO r)
@[simp] theorem run_fz {P : R → Prop} : Wp (.rt .fz d) (runQ P) = P (.ok .fz d) := (rfl)
@[simp] theorem run_ow {P : R → Prop} : Wp (.rt .ow d) (runQ P) = P (.ok .ow d) := (rfl)
@[elab_as_elim] theorem run_el {motive : R → Prop} (r : R) {n : Nat} (e : r = runF n g ds) (w : Wp (g (ev0 n ds)) (runQ motive)) : motive r := e ▸ w
end
theorem compO_map {b : B1} {e : Ev → R} {ev : Ev} {α : Type} {enc : α → D} {l : List α} (v : α → D) (hn : l.length < LIM) (h : ∀ x ∈ l, ∃ ev1, b (enc x) ev = some ev1 ∧ ∃ k, k ≠ Kd.bo ∧ e ev1 = .ok k (v x)) :
    compO b (conR (.bl true)) e ev (.ok (l.map enc)) = .ok .ow (.lst (l.map v)) := by
  have := compO_fm (b := b) (c := conR (.bl true)) (e := e) (ev := ev) (enc := enc) (l := l) (fun _ => true) v hn fun x hx => by
    obtain ⟨ev1, h1, h2⟩ := h x hx
    exact ⟨ev1, h1, ⟨.fz, rfl⟩, fun _ => h2⟩
  rwa [List.filter_eq_self.2 (by simp)] at this
end L3
namespace L3
open PySem L2
section
variable {κ : Type} [DecidableEq κ]
theorem dGet_app {k q : κ} {d : D} : ∀ {ks : List κ} {xs : List D}, ks.length = xs.length → k ∉ ks → dGet (ks ++ [k]) (xs ++ [d]) q = if q = k then some d else dGet ks xs q
  | [], [], _, _ => by simp [dGet, eq_comm]
  | [], x :: xs, h, _ => by simp at h
  | p :: ks, [], h, _ => by simp at h
  | p :: ks, x :: xs, h, hk => by
    simp only [List.cons_append, dGet]
    rw [dGet_app (by simpa using h) (fun z => hk (by simp [z]))]
    by_cases e : p = q
    · subst e
      have : ¬ p = k := fun z => hk (by simp [z])
      simp [this]
    · simp [e]
theorem dGet_zip {k q : κ} {d : D} : ∀ {ks : List κ} {xs : List D}, ks.length = xs.length → dGet ks (List.zipWith (fun k' x => if k' = k then d else x) ks xs) q = if q = k ∧ k ∈ ks then some d else dGet ks xs q
  | [], _, _ => by simp [dGet]
  | p :: ks, [], h => by simp at h
  | p :: ks, x :: xs, h => by
    simp only [List.zipWith_cons_cons, dGet]
    rw [dGet_zip (by simpa using h)]
    by_cases e : p = q
    · subst e
      by_cases e2 : p = k
      · simp [e2]
      · simp [e2]
    · by_cases e2 : q = k
      · subst e2
        have : ¬ q = p := fun z => e z.symm
        simp [e, this]
      · simp [e, e2]
theorem dGet_put {k q : κ} {d : D} {ks : List κ} {xs : List D} (h : ks.length = xs.length) : dGet (dPutK ks k) (dPutV ks xs k d) q = if q = k then some d else dGet ks xs q := by
  unfold dPutK dPutV
  by_cases hk : k ∈ ks
  · rw [if_pos hk, if_pos hk, dGet_zip h]; simp [hk]
  · rw [if_neg hk, if_neg hk, dGet_app h hk]
theorem dPut_len {k : κ} {d : D} {ks : List κ} {xs : List D} (h : ks.length = xs.length) : (dPutK ks k).length = (dPutV ks xs k d).length := by
  unfold dPutK dPutV
  by_cases hk : k ∈ ks
  · rw [if_pos hk, if_pos hk]; simp [h]
  · rw [if_neg hk, if_neg hk]; simp [h]
end
end L3
set_option Elab.async false
set_option linter.all false
set_option maxRecDepth 100000
namespace L3
open PySem L2 TSrt
@[simp] theorem eSortK_eqs {φ : List D → R} {b : Bool} {f : Ev → R} {ev : Ev} : eSortK φ b f ev = sortKR φ b (f ev) := (rfl)
@[simp] theorem sortKR_lst {φ : List D → R} {b : Bool} {k : Kd} {ds : List D} : sortKR φ b (.ok k (.lst ds)) = sortKD φ b ds := (rfl)
theorem cN_of {κ : Type} {lt : κ → κ → Bool} {ks : Nat → κ} {i j : Nat} (h : cN lt ks i j = false) : lt (ks i) (ks j) = false := by
  unfold cN at h
  simp only [Bool.or_eq_false_iff] at h
  exact h.1
theorem srtB_perm {κ : Type} (lt : κ → κ → Bool) (b : Bool) (ks : Nat → κ) (n : Nat) : (srtB lt b ks n).Perm (List.range n) := by
  unfold srtB
  split
  · refine (List.reverse_perm _).trans (((srt_perm ..).map _).trans ?_)
    have e : (List.range n).map (fun i => n - 1 - i) = (List.range n).reverse := by
      apply List.ext_getElem (by simp)
      intro i h1 h2
      simp at h1 ⊢
    rw [e]
    exact List.reverse_perm _
  · exact srt_perm ..
theorem srtB_desc {κ : Type} {lt : κ → κ → Bool} (o : Swk lt) (ks : Nat → κ) (n : Nat) : (srtB lt true ks n).Pairwise fun i j => lt (ks i) (ks j) = false := by
  show ((srt lt (fun i => ks (n - 1 - i)) n).map (fun i => n - 1 - i)).reverse.Pairwise _
  rw [List.pairwise_reverse, List.pairwise_map]
  exact (srt_asc o (fun i => ks (n - 1 - i)) n).imp fun h => cN_of h
theorem pick_map {α : Type} (x0 : α) (enc : α → D) (l : List α) (is : List Nat) (h : ∀ i ∈ is, i < l.length) : pickD is (l.map enc) = (is.map fun i => l.getD i x0).map enc := by
  unfold pickD
  rw [List.map_map]
  refine List.map_congr_left fun i hi => ?_
  have := h i hi
  simp [this]
theorem pick_perm {α : Type} (x0 : α) (l : List α) {is : List Nat} (h : is.Perm (List.range l.length)) : (is.map fun i => l.getD i x0).Perm l := by
  refine (h.map _).trans ?_
  have : (List.range l.length).map (fun i => l.getD i x0) = l := by
    apply List.ext_getElem (by simp)
    intro i h1 h2
    simp [h2]
  rw [this]
theorem allSome_ok {α : Type} {f : α → Option Int} {key : α → Int} : ∀ {l : List α}, (∀ x ∈ l, f x = some (key x)) → allSome (l.map f) = some (l.map key)
  | [], _ => rfl
  | x :: l, h => by
    simp only [List.map_cons, h x (by simp), allSome, allSome_ok (l := l) fun y hy => h y (by simp [hy])]
    rfl
theorem sortKD_ok {α : Type} (x0 : α) {enc : α → D} {φ : List D → R} {key : α → Int} {kl : List (List Key)} {l : List α} (hk : ∀ x ∈ l, φ [enc x] = .ok .fz (.int (key x))) (hq : keysL (l.map enc) = some kl) (nd : kl.Nodup) (hn : l.length ≤ 100000) :
    ∃ l' : List α, l'.Perm l ∧ l'.Pairwise (fun a b => key b ≤ key a) ∧ sortKD φ true (l.map enc) = .ok .ow (.lst (l'.map enc)) := by
  refine ⟨(srtB ltI true (fun i => (l.map key).getD i 0) l.length).map fun i => l.getD i x0, pick_perm x0 l (srtB_perm ..), ?_, ?_⟩
  · rw [List.pairwise_map]
    refine List.Pairwise.imp_of_mem (fun {i j} hi hj h => ?_) (srtB_desc swI _ _)
    have hi := srtB_lt hi
    have hj := srtB_lt hj
    simp only [ltI, decide_eq_false_iff_not] at h
    simp [hi, hj] at h ⊢
    exact h
  · unfold sortKD
    rw [List.map_map, allSome_ok (f := intK φ ∘ enc) (key := key) fun x hx => by simp [intK, hk x hx], hq]
    dsimp only
    rw [if_pos ⟨nd, by simpa using hn⟩, List.length_map, pick_map x0 enc l _ fun i hi => srtB_lt hi]
@[simp] theorem eSortT_eqs {f : Ev → R} {ev : Ev} : eSortT f ev = sortTR (f ev) := (rfl)
@[simp] theorem sortTR_lst {k : Kd} {ds : List D} : sortTR (.ok k (.lst ds)) = sortTD ds := (rfl)
noncomputable def srtA {α : Type} (x0 : α) (kf : α → List Key) (l : List α) : List α := (srt lexK (fun i => (l.map kf).getD i []) l.length).map fun i => l.getD i x0
theorem srtA_perm {α : Type} {x0 : α} {kf : α → List Key} {l : List α} : (srtA x0 kf l).Perm l := pick_perm x0 l (srt_perm ..)
theorem sortTD_ok {α : Type} (x0 : α) {enc : α → D} {kf : α → List Key} {l : List α} (hq : keysL (l.map enc) = some (l.map kf)) (nd : (l.map kf).Nodup) (hs : okSh (l.map kf) = true) (hn : l.length ≤ 100000) : sortTD (l.map enc) = .ok .ow (.lst ((srtA x0 kf l).map enc)) := by
  unfold sortTD
  rw [hq]
  dsimp only
  rw [if_pos ⟨nd, hs, by simpa using hn⟩, List.length_map, pick_map x0 enc l _ fun i hi => srt_lt hi]
  rfl
theorem okSh_of {α : Type} {kf : α → List Key} {sh : List Bool} (hh : sh.head? = some true) (h : ∀ x, (kf x).map kin = sh) (l : List α) : okSh (l.map kf) = true := by
  cases l with
  | nil => rfl
  | cons x l =>
    simp only [List.map_cons, okSh, Bool.and_eq_true, decide_eq_true_eq, List.all_eq_true, List.mem_map]
    refine ⟨by rw [← List.head?_map, h]; exact hh, ?_⟩
    rintro _ ⟨y, _, rfl⟩
    rw [h, h]
noncomputable def setUO (i j : Nat) (f : Ev → R) (o : Option (Option (Kd × D))) (ev : Ev) : Fl := match o with
  | some (some (.ow, .lst ds)) => setUR j ev (f (ev.set i (some (.fz, .lst ds))))
  | _ => .no
@[simp] theorem setUG_eqs {i j : Nat} {f : Ev → R} {ev : Ev} : setUG i j f ev = setUO i j f ev[i]? ev := (rfl)
@[simp] theorem setUO_ow {i j : Nat} {f : Ev → R} {ev : Ev} {ds : List D} : setUO i j f (some (some (.ow, .lst ds))) ev = setUR j ev (f (ev.set i (some (.fz, .lst ds)))) := (rfl)
@[simp] theorem setUR_ok {j : Nat} {ev : Ev} {es : List D} : setUR j ev (.ok .ow (.lst es)) = if flatL es = true then .nx (ev.set j (some (.ow, .lst es))) else .no := (rfl)
theorem flatL_of {α : Type} {enc : α → D} (h : ∀ x, flatD (enc x) = true) : ∀ l : List α, flatL (l.map enc) = true
  | [] => by simp [flatL]
  | x :: l => by simp [flatL, h x, flatL_of h l]
end L3
set_option Elab.async false
set_option linter.all false
set_option maxRecDepth 100000
namespace L3
open PySem L2
section
variable {ev : Ev} {f f1 f2 : Ev → R} {i j n : Nat} {d : D} {l : List D} {k : Kd} {C : Addr}
@[simp] theorem eSlS_eq : eSlS f1 f2 ev = slSR (f1 ev) (f2 ev) := (rfl)
@[simp] theorem slSR_str {k2 : Kd} {x : Str} {y : Int} : slSR (.ok k (.str x)) (.ok k2 (.int y)) = if (cutS x y).length ≤ LIM then .ok .fz (.str (cutS x y)) else .no := (rfl)
@[simp] theorem eCnt_eq : eCnt f1 f2 ev = cntR (f1 ev) (f2 ev) := (rfl)
@[simp] theorem cntR_lst {r : R} : cntR (.ok k (.lst l)) r = cntR2 l r := (rfl)
@[simp] theorem cntR2_ok : cntR2 l (.ok k d) = toR (cntD l d) := (rfl)
end
theorem cutS_ok {x : Str} {i : Int} (h : PyData.strOk x = true) : PyData.strOk (cutS x i) = true := by
  unfold cutS
  split
  · exact h
  · simp only [PyData.strOk, Array.all_eq_true_iff_forall_mem, decide_eq_true_eq] at h ⊢
    intro c hc
    simp at hc
    obtain ⟨j, _, e⟩ := hc
    exact h c (Array.mem_of_getElem? e)
theorem cutS_len {x : Str} (h : x.length ≤ 12) : (cutS x 1).length ≤ 12 := by
  unfold cutS
  split
  · exact h
  · have e : ∀ n, n < 13 → (Builtin.Str.strSliceIndices (some 1) none 1 n).length ≤ 12 := by decide +kernel
    have := e x.length (by omega)
    have h2 := List.length_filterMap_le (fun j => x.cps[j]?) (pickS x 1)
    show (List.filterMap (fun j => x.cps[j]?) (pickS x 1)).toArray.size ≤ 12
    rw [List.size_toArray]
    exact Nat.le_trans h2 this
theorem strOk_app {x y : Str} (h : PyData.strOk x = true) (g : PyData.strOk y = true) : PyData.strOk (x ++ y) = true := by
  show (x.cps ++ y.cps).all _ = true
  rw [Array.all_append]
  unfold PyData.strOk at h g
  rw [h, g]; rfl
theorem cnt_pl {n m : Nat} {a : D} {p : PyData} (ha : pl n a = true) (ea : py a = some p) : ∀ {l : List D} {qs : List PyData}, plL m l = true → pyL l = some qs → (qs.countP fun q => q.eqv p) = l.countP fun x => decide (x = a)
  | [], _, _, e => by cases e; rfl
  | d :: l, qs, h, e => by
    simp only [plL, Bool.and_eq_true] at h
    obtain ⟨q1, e3, _⟩ := py_of h.1
    obtain ⟨qs', e4, _⟩ := pyL_of h.2
    simp only [pyL, e3, e4, Option.bind_some, Option.map_some, Option.some.injEq] at e
    subst e
    have : q1.eqv p = decide (d = a) := by rw [Bool.eq_iff_iff, eqv_pl h.1 ha e3 ea, decide_eq_true_iff]
    rw [List.countP_cons, List.countP_cons, cnt_pl ha ea h.2 e4, this]
theorem cntD_pl {a : D} {xs : List D} (ha : pl 60 a = true) (hb : plL 60 xs = true) : cntD xs a = some (.fz, .int ((xs.countP fun x => decide (x = a) : Nat) : Int)) := by
  obtain ⟨p, e1, h1⟩ := py_of ha
  obtain ⟨qs, e2, _⟩ := pyL_of hb
  have h1' : p.depth ≤ DEEP := h1
  simp only [cntD, e1, e2, if_pos h1', cnt_pl ha e1 hb e2]
end L3
set_option Elab.async false
set_option linter.all false
set_option maxRecDepth 100000
namespace L3
open PySem L2
end L3
set_option linter.all false
namespace Net
noncomputable abbrev Stp := Nat × Nat × Int
noncomputable abbrev B := List (Option (Int × List Nat))
noncomputable def at_ (b : B) (v : Nat) : Option (Int × List Nat) := (b[v]?).join
noncomputable def val (b : B) (v : Nat) : Option Int := (at_ b v).map (·.1)
noncomputable def start (n h : Nat) : B := (List.replicate n none).set h (some (0, [h]))
inductive W (steps : List Stp) (h : Nat) : List Nat → Int → Prop
  | one : W steps h [h] 0
  | more {s g : Nat} {p : List Nat} {t c : Int} : W steps h (s :: p) t → (s, g, c) ∈ steps → W steps h (g :: s :: p) (t + c)

section
variable {n h : Nat} {steps : List Stp} {b : B}
theorem val_some {v : Nat} {t : Int} (e : val b v = some t) : ∃ w, at_ b v = some (t, w) := by
  unfold val at e
  cases q : at_ b v with
  | none => rw [q] at e; cases e
  | some z => obtain ⟨t', w⟩ := z; rw [q] at e; simp at e; subst e; exact ⟨w, rfl⟩
end
end Net
set_option Elab.async false
set_option linter.all false
set_option maxRecDepth 100000
set_option maxHeartbeats 4000000
namespace My
open PySem L2 L3
noncomputable def top (i : Nat) : Stmt := PySem.Challenge.pw_hearsay_k24_alike.main.body.getD i (.Pass ⟨0, 0, 0, 0⟩)
noncomputable abbrev s_L_cell_at : Stmt := top 8
noncomputable abbrev N_L_cell_at : List Str := ["_law_script", "_law_k"]
noncomputable abbrev ps_L_cell_at : List Str := ["_law_script", "_law_k"]
noncomputable def g_L_cell_at : Ev → Fl := (seqG (ifG (eOp ltD (varR 1) (eCall lenD (aCons (varR 0) aNil))) (retG (eOp idxD (varR 0) (varR 1))) (.nx))
    (retG (conR (.int 0))))
noncomputable def φ_L_cell_at : List D → R := runF 0 g_L_cell_at
noncomputable abbrev s_L_good : Stmt := top 16
noncomputable abbrev N_L_good : List Str := ["_law_net_here", "_law_tale_here", "_law_mosts", "_law_start", "_law_goal", "_law_most", "_law_come", "_law_run", "_law_left", "_law_sign"]
noncomputable abbrev ps_L_good : List Str := ["_law_net_here", "_law_tale_here"]
noncomputable def g_L_good_b1 : Ev → Fl := (setItG 2 (eTup (aCons (varR 3) (aCons (varR 4) aNil))) (varR 5))
noncomputable def g_L_good_j1 : Ev → Fl := (setItG 6 (eSl (varR 7) oNo (oSome (conR (.int 3)))) (conR (.bl true)))
noncomputable def g_L_good_j2 : Ev → Fl := (seqG (setG 5 (eOp idxD (varR 2) (eSl (varR 7) oNo (oSome (conR (.int 2))))))
    (seqG (ifG (eOr (eOp ltD (eOp idxD (varR 7) (conR (.int 2))) (conR (.int 0))) (eOr (eOp leD (eOp idxD (varR 7) (conR (.int 3))) (eOp idxD (varR 7) (conR (.int 2)))) (eOr (eOp gtD (eOp idxD (varR 7) (conR (.int 3))) (eOp idxD (varR 1) (conR (.int 0)))) (eAnd (eOp notND (varR 5) (conR .non)) (eOp gtD (eOp idxD (varR 7) (conR (.int 3))) (eOp addD (eOp idxD (varR 7) (conR (.int 2))) (varR 5))))))) (retG (conR (.bl false))) (.nx))
    g_L_good_j1))
noncomputable def g_L_good_b2 : Ev → Fl := (seqG (ifG (eOr (eNot (eCall isiD (aCons (varR 7) (aCons (conR (.ty "tuple")) aNil)))) (eOr (eOp neD (eCall lenD (aCons (varR 7) aNil)) (conR (.int 4))) (eOr (eOp notInD (eSl (varR 7) oNo (oSome (conR (.int 2)))) (varR 2)) (eOp inD (eSl (varR 7) oNo (oSome (conR (.int 3)))) (varR 6))))) (retG (conR (.bl false))) (.nx))
    g_L_good_j2)
noncomputable def g_L_good_b3 : Ev → Fl := (ifG (eOp notInD (eTup (aCons (varR 3) (aCons (varR 4) (aCons (varR 8) aNil)))) (varR 6)) (retG (conR (.bl false))) (.nx))
noncomputable def g_L_good_b4 : Ev → Fl := (ifG (eOp notND (varR 5) (conR .non)) (forG (iRngW (aCons (eOp addD (eOp subD (eOp idxD (varR 1) (conR (.int 0))) (varR 5)) (conR (.int 1))) aNil)) (bName 8) g_L_good_b3) (.nx))
noncomputable def g_L_good_j3 : Ev → Fl := (ifG (eOr (eNot (eChain leD leD (conR (.int 0)) (eOp idxD (varR 9) (conR (.int 1))) (eOp idxD (varR 1) (conR (.int 0))))) (eOp neD (eCnt (eOp idxD (varR 1) (conR (.int 2))) (varR 9)) (conR (.int 1)))) (retG (conR (.bl false))) (.nx))
noncomputable def g_L_good_b5 : Ev → Fl := (seqG (ifG (eOr (eNot (eCall isiD (aCons (varR 9) (aCons (conR (.ty "tuple")) aNil)))) (eOr (eOp neD (eCall lenD (aCons (varR 9) aNil)) (conR (.int 3))) (eNot (eChain leD ltD (conR (.int 0)) (eOp idxD (varR 9) (conR (.int 0))) (eOp idxD (varR 0) (conR (.int 0))))))) (retG (conR (.bl false))) (.nx))
    g_L_good_j3)
noncomputable def g_L_good_j4 : Ev → Fl := (seqG (forG (iLst (eOp idxD (varR 1) (conR (.int 2)))) (bName 9) g_L_good_b5)
    (retG (conR (.bl true))))
noncomputable def g_L_good_j5 : Ev → Fl := (seqG (forG (iLst (eOp idxD (varR 0) (conR (.int 1)))) (bTup 3 (bCons (bName 3) (bCons (bName 4) (bCons (bName 5) bNil)))) g_L_good_b4)
    g_L_good_j4)
noncomputable def g_L_good_j6 : Ev → Fl := (seqG (setG 6 (fun _ => .ok .ow (.dT [] [])))
    (seqG (forG (iLst (eOp idxD (varR 1) (conR (.int 1)))) (bName 7) g_L_good_b2)
    g_L_good_j5))
noncomputable def g_L_good : Ev → Fl := (seqG (setG 2 (fun _ => .ok .ow (.dT [] [])))
    (seqG (forG (iLst (eOp idxD (varR 0) (conR (.int 1)))) (bTup 3 (bCons (bName 3) (bCons (bName 4) (bCons (bName 5) bNil)))) g_L_good_b1)
    g_L_good_j6))
noncomputable def φ_L_good : List D → R := runF 8 g_L_good
noncomputable abbrev s_L_mix : Stmt := top 9
noncomputable abbrev N_L_mix : List Str := ["_law_cell", "_law_k", "_law_number"]
noncomputable abbrev ps_L_mix : List Str := ["_law_cell", "_law_k"]
noncomputable def g_L_mix : Ev → Fl := (seqG (setG 2 (eOp modD (eOp mulD (eOp addD (eOp addD (eOp modD (varR 0) (conR (.int 1000003))) (eOp mulD (eOp mulD (varR 1) (varR 1)) (conR (.int 7919)))) (varR 1)) (conR (.int 48271))) (conR (.int 2147483629))))
    (retG (eOp fdivD (eOp modD (eOp mulD (varR 2) (varR 2)) (conR (.int 2147483587))) (conR (.int 7)))))
noncomputable def φ_L_mix : List D → R := runF 1 g_L_mix
noncomputable abbrev s_L_net : Stmt := top 10
noncomputable abbrev N_L_net : List Str := ["_law_script", "_law_number", "_law_houses", "_law_paths", "_law_start", "_law_goal", "_law_drawn", "_law_far", "_law_most"]
noncomputable abbrev ps_L_net : List Str := ["_law_script"]
noncomputable def g_L_net_j1 : Ev → Fl := (seqG (setG 8 (eOp idxD (eLst (aCons (conR .non) (aCons (conR (.int 1)) (aCons (conR (.int 2)) (aCons (eOp addD (conR (.int 1)) (eOp modD (eOp fdivD (varR 6) (conR (.int 6))) (conR (.int 6)))) (aCons (eOp addD (eOp powD (conR (.int 10)) (conR (.int 50))) (varR 6)) aNil)))))) (eOp subD (eOp modD (varR 6) (conR (.int 6))) (conR (.int 1)))))
    (appG 3 (eTup (aCons (varR 4) (aCons (varR 5) (aCons (varR 8) aNil))))))
noncomputable def g_L_net_b1 : Ev → Fl := (seqG (setG 6 (eFn 2 φ_L_mix (aCons (eFn 2 φ_L_cell_at (aCons (varR 0) (aCons (conR (.int 1)) aNil))) (aCons (eOp addD (eOp mulD (conR (.int 10)) (varR 4)) (varR 5)) aNil))))
    (seqG (setG 7 (eAnd (eOp gtD (eCall absD (aCons (eOp subD (varR 5) (varR 4)) aNil)) (conR (.int 1))) (eOr (eOp eqD (eOp modD (varR 1) (conR (.int 4))) (conR (.int 1))) (eOp gtD (varR 2) (conR (.int 4))))))
    (seqG (ifG (eOr (eOp eqD (varR 4) (varR 5)) (eOr (varR 7) (eOp eqD (eOp modD (varR 6) (conR (.int 6))) (conR (.int 0))))) (.ct) (.nx))
    g_L_net_j1)))
noncomputable def g_L_net_b2 : Ev → Fl := (forG (iRngW (aCons (varR 2) aNil)) (bName 5) g_L_net_b1)
noncomputable def g_L_net_j2 : Ev → Fl := (frzG 3 (frzG 2 (retG (eTup (aCons (varR 2) (aCons (varR 3) aNil))))))
noncomputable def g_L_net_j3 : Ev → Fl := (seqG (ifG (eOp eqD (eOp modD (eOp fdivD (varR 1) (conR (.int 4))) (conR (.int 2))) (conR (.int 1))) (setG 3 (eOp stepD (varR 3) (eUn negD (conR (.int 1))))) (.nx))
    g_L_net_j2)
noncomputable def g_L_net_j4 : Ev → Fl := (seqG (setG 3 (eLst aNil))
    (seqG (forG (iRngW (aCons (varR 2) aNil)) (bName 4) g_L_net_b2)
    g_L_net_j3))
noncomputable def g_L_net_j5 : Ev → Fl := (seqG (ifG (eOp eqD (eOp modD (eOp fdivD (varR 1) (conR (.int 8))) (conR (.int 8))) (conR (.int 2))) (setG 2 (conR (.int 2))) (.nx))
    g_L_net_j4)
noncomputable def g_L_net : Ev → Fl := (seqG (setG 1 (eFn 2 φ_L_mix (aCons (eFn 2 φ_L_cell_at (aCons (varR 0) (aCons (conR (.int 0)) aNil))) (aCons (conR (.int 1)) aNil))))
    (seqG (setG 2 (eOp addD (conR (.int 1)) (eOp modD (eFn 2 φ_L_cell_at (aCons (varR 0) (aCons (conR (.int 0)) aNil))) (conR (.int 4)))))
    (seqG (ifG (eOp eqD (eOp modD (eOp fdivD (varR 1) (conR (.int 8))) (conR (.int 8))) (conR (.int 1))) (setG 2 (eOp addD (conR (.int 5)) (eOp modD (eOp fdivD (varR 1) (conR (.int 64))) (conR (.int 4))))) (.nx))
    g_L_net_j5)))
noncomputable def φ_L_net : List D → R := runF 8 g_L_net
noncomputable abbrev s_L_ends : Stmt := top 13
noncomputable abbrev N_L_ends : List Str := ["_law_net_here", "_law_tale_here", "_law_spot", "_law_ends_here", "_law_busy", "_law_start", "_law_goal", "_law_left", "_law_come"]
noncomputable abbrev ps_L_ends : List Str := ["_law_net_here", "_law_tale_here", "_law_spot"]
noncomputable def g_L_ends_b1 : Ev → Fl := (ifG (eAnd (eOp leD (varR 8) (eOp idxD (varR 3) (varR 6))) (eOp gtD (varR 7) (eOp idxD (varR 3) (varR 5)))) (seqG (setItG 3 (varR 5) (varR 7))
    (setG 4 (conR (.bl true)))) (.nx))
noncomputable def g_L_ends_b2 : Ev → Fl := (seqG (setG 4 (conR (.bl false)))
    (forG (iLst (eOp idxD (varR 1) (conR (.int 1)))) (bTup 4 (bCons (bName 5) (bCons (bName 6) (bCons (bName 7) (bCons (bName 8) bNil))))) g_L_ends_b1))
noncomputable def g_L_ends : Ev → Fl := (seqG (setG 3 (eOp mulD (eLst (aCons (eUn negD (conR (.int 1))) aNil)) (eOp idxD (varR 0) (conR (.int 0)))))
    (seqG (setItG 3 (eOp idxD (varR 2) (conR (.int 0))) (eOp idxD (varR 2) (conR (.int 1))))
    (seqG (setG 4 (conR (.bl true)))
    (seqG (whlE (varR 4) g_L_ends_b2 100000)
    (retVarG 3)))))
noncomputable def φ_L_ends : List D → R := runF 6 g_L_ends
noncomputable abbrev s_L_other : Stmt := top 15
noncomputable abbrev N_L_other : List Str := ["_law_script", "_law_net_here", "_law_tale_here", "_law_spot", "_law_shift", "_law_ends_here", "_law_runs", "_law_kept", "_law_k", "_law_start", "_law_goal", "_law_most", "_law_left", "_law_number", "_law_first", "_law_come", "_law_signs_here", "_law_house"]
noncomputable abbrev ps_L_other : List Str := ["_law_script", "_law_net_here", "_law_tale_here", "_law_spot", "_law_shift"]
noncomputable def g_L_other_j1 : Ev → Fl := (ifG (eOp leD (varR 15) (eOp idxD (varR 2) (conR (.int 0)))) (frzG 15 (appG 6 (eTup (aCons (varR 9) (aCons (varR 10) (aCons (varR 12) (aCons (varR 15) aNil))))))) (.nx))
noncomputable def g_L_other_j2 : Ev → Fl := (seqG (setG 15 (eOp addD (varR 14) (eOp modD (eOp fdivD (varR 13) (conR (.int 3))) (conR (.int 3)))))
    (seqG (ifG (eOp notND (varR 11) (conR .non)) (setG 15 (eOp addD (varR 14) (eOp modD (eOp fdivD (varR 13) (conR (.int 3))) (eCall min2D (aCons (conR (.int 3)) (aCons (eOp addD (eOp subD (eOp addD (varR 12) (varR 11)) (varR 14)) (conR (.int 1))) aNil)))))) (.nx))
    g_L_other_j1))
noncomputable def g_L_other_b1 : Ev → Fl := (seqG (setG 8 (eOp addD (varR 8) (conR (.int 1))))
    (seqG (setG 13 (eFn 2 φ_L_mix (aCons (eFn 2 φ_L_cell_at (aCons (varR 0) (aCons (eOp addD (conR (.int 3)) (eOp modD (varR 8) (conR (.int 60)))) aNil))) (aCons (varR 8) aNil))))
    (seqG (setG 14 (eOp addD (eCall max2D (aCons (varR 12) (aCons (eOp idxD (varR 5) (varR 10)) aNil))) (conR (.int 1))))
    (seqG (ifG (eOr (eOp inD (eTup (aCons (varR 9) (aCons (varR 10) (aCons (varR 12) aNil)))) (varR 7)) (eAnd (eOp isND (varR 11) (conR .non)) (eOp eqD (eOp modD (varR 13) (conR (.int 3))) (conR (.int 0))))) (.ct) (.nx))
    g_L_other_j2))))
noncomputable def g_L_other_b2 : Ev → Fl := (forG (iRngW (aCons (eOp idxD (varR 2) (conR (.int 0))) aNil)) (bName 12) g_L_other_b1)
noncomputable def g_L_other_b3 : Ev → Fl := (seqG (setG 13 (eFn 2 φ_L_mix (aCons (eFn 2 φ_L_cell_at (aCons (varR 0) (aCons (eOp addD (conR (.int 3)) (varR 17)) aNil))) (aCons (eOp addD (varR 8) (varR 17)) aNil))))
    (ifG (eAnd (eOp ltD (eOp idxD (varR 5) (varR 17)) (eOp idxD (varR 2) (conR (.int 0)))) (eOp eqD (eOp modD (varR 13) (conR (.int 2))) (conR (.int 1)))) (appG 16 (eTup (aCons (varR 17) (aCons (eOp addD (eOp idxD (varR 5) (varR 17)) (conR (.int 1))) (aCons (eOp idxD (eLst (aCons (conR (.str (Str.ofString "a"))) (aCons (conR (.str (Str.ofString "b"))) (aCons (conR (.str (Str.ofString "ab"))) aNil)))) (eOp modD (eOp fdivD (varR 13) (conR (.int 2))) (conR (.int 3)))) aNil))))) (.nx)))
noncomputable def g_L_other_j3 : Ev → Fl := (frzG 16 (frzG 6 (retG (eTup (aCons (eOp idxD (varR 2) (conR (.int 0))) (aCons (varR 6) (aCons (varR 16) aNil)))))))
noncomputable def g_L_other_j4 : Ev → Fl := (frzG 5 (seqG (setG 16 (eComp ([some 5, none] : List (Option Nat)) (iLst (eOp idxD (varR 2) (conR (.int 2)))) (bName 1) (eOp leD (eOp idxD (varR 1) (conR (.int 1))) (eOp idxD (varR 0) (eOp idxD (varR 1) (conR (.int 0))))) (varR 1)))
    (seqG (forG (iRngW (aCons (eOp idxD (varR 1) (conR (.int 0))) aNil)) (bName 17) g_L_other_b3)
    g_L_other_j3)))
noncomputable def g_L_other : Ev → Fl := (seqG (setG 5 (eFn 3 φ_L_ends (aCons (varR 1) (aCons (varR 2) (aCons (varR 3) aNil)))))
    (frzG 5 (seqG (setG 6 (eComp ([some 5, none] : List (Option Nat)) (iLst (eOp idxD (varR 2) (conR (.int 1)))) (bName 1) (eOp leD (eOp idxD (varR 1) (conR (.int 3))) (eOp idxD (varR 0) (eOp idxD (varR 1) (conR (.int 1))))) (varR 1)))
    (seqG (setUG 6 7 (eComp ([none] : List (Option Nat)) (iLst (varR 6)) (bName 0) (conR (.bl true)) (eSl (varR 0) oNo (oSome (conR (.int 3))))))
    (seqG (setG 8 (varR 4))
    (seqG (forG (iLst (eOp idxD (varR 1) (conR (.int 1)))) (bTup 3 (bCons (bName 9) (bCons (bName 10) (bCons (bName 11) bNil)))) g_L_other_b2)
    g_L_other_j4))))))
noncomputable def φ_L_other : List D → R := runF 13 g_L_other
noncomputable abbrev s_L_seen : Stmt := top 14
noncomputable abbrev N_L_seen : List Str := ["_law_net_here", "_law_tale_here", "_law_spot", "_law_ends_here", "_law_runs", "_law_signs_here"]
noncomputable abbrev ps_L_seen : List Str := ["_law_net_here", "_law_tale_here", "_law_spot"]
noncomputable def g_L_seen : Ev → Fl := (seqG (setG 3 (eFn 3 φ_L_ends (aCons (varR 0) (aCons (varR 1) (aCons (varR 2) aNil)))))
    (frzG 3 (seqG (setG 4 (eComp ([some 3, none] : List (Option Nat)) (iLst (eOp idxD (varR 1) (conR (.int 1)))) (bName 1) (eOp leD (eOp idxD (varR 1) (conR (.int 3))) (eOp idxD (varR 0) (eOp idxD (varR 1) (conR (.int 1))))) (varR 1)))
    (frzG 3 (seqG (setG 5 (eComp ([some 3, none] : List (Option Nat)) (iLst (eOp idxD (varR 1) (conR (.int 2)))) (bName 1) (eOp leD (eOp idxD (varR 1) (conR (.int 1))) (eOp idxD (varR 0) (eOp idxD (varR 1) (conR (.int 0))))) (varR 1)))
    (retG (eTup (aCons (varR 2) (aCons (eSortT (varR 4)) (aCons (eSortT (varR 5)) aNil))))))))))
noncomputable def φ_L_seen : List D → R := runF 3 g_L_seen
noncomputable abbrev s_L_signs : Stmt := top 11
noncomputable abbrev N_L_signs : List Str := ["_law_script", "_law_net_here", "_law_last", "_law_signs_here", "_law_at", "_law_names", "_law_k", "_law_number", "_law_sign"]
noncomputable abbrev ps_L_signs : List Str := ["_law_script", "_law_net_here", "_law_last"]
noncomputable def g_L_signs_b1 : Ev → Fl := (seqG (setG 7 (eFn 2 φ_L_mix (aCons (eFn 2 φ_L_cell_at (aCons (varR 0) (aCons (eOp addD (conR (.int 3)) (varR 6)) aNil))) (aCons (eOp addD (conR (.int 500)) (varR 6)) aNil))))
    (seqG (setG 8 (eTup (aCons (eOp modD (varR 7) (eOp idxD (varR 1) (conR (.int 0)))) (aCons (eOp modD (eOp fdivD (varR 7) (conR (.int 5))) (eOp addD (varR 2) (conR (.int 1)))) (aCons (eOp idxD (varR 5) (eOp modD (eOp fdivD (varR 7) (conR (.int 300))) (conR (.int 4)))) aNil)))))
    (ifG (eOp notInD (varR 8) (varR 3)) (appG 3 (varR 8)) (.nx))))
noncomputable def g_L_signs_j1 : Ev → Fl := (seqG (forG (iRngW (aCons (eOp modD (eFn 2 φ_L_mix (aCons (eFn 2 φ_L_cell_at (aCons (varR 0) (aCons (conR (.int 2)) aNil))) (aCons (conR (.int 2)) aNil))) (conR (.int 5))) aNil)) (bName 6) g_L_signs_b1)
    (retVarG 3))
noncomputable def g_L_signs : Ev → Fl := (seqG (setG 3 (eLst aNil))
    (seqG (setG 4 (eOp modD (eOp fdivD (eFn 2 φ_L_cell_at (aCons (varR 0) (aCons (conR (.int 2)) aNil))) (conR (.int 25))) (conR (.int 12))))
    (seqG (setG 5 (eLst (aCons (conR (.str (Str.ofString "a"))) (aCons (conR (.str (Str.ofString "ab"))) (aCons (conR (.str (Str.ofString "ba"))) (aCons (conR (.str (Str.ofString "zzzzzzzzzzzz"))) aNil))))))
    (seqG (ifG (eOp eqD (eOp modD (eOp fdivD (eFn 2 φ_L_cell_at (aCons (varR 0) (aCons (conR (.int 2)) aNil))) (conR (.int 300))) (conR (.int 2))) (conR (.int 1))) (setG 5 (eLst (aCons (conR (.str (Str.ofString "aaaaaaaaaaaa"))) (aCons (eOp addD (eOp addD (eOp mulD (conR (.str (Str.ofString "a"))) (varR 4)) (conR (.str (Str.ofString "b")))) (eOp mulD (conR (.str (Str.ofString "a"))) (eOp subD (conR (.int 11)) (varR 4)))) (aCons (eOp addD (eOp addD (eOp mulD (conR (.str (Str.ofString "a"))) (varR 4)) (conR (.str (Str.ofString "c")))) (eOp mulD (conR (.str (Str.ofString "a"))) (eOp subD (conR (.int 11)) (varR 4)))) (aCons (eOp mulD (conR (.str (Str.ofString "a"))) (conR (.int 11))) aNil)))))) (.nx))
    g_L_signs_j1))))
noncomputable def φ_L_signs : List D → R := runF 6 g_L_signs
noncomputable abbrev s_L_tale : Stmt := top 12
noncomputable abbrev N_L_tale : List Str := ["_law_script", "_law_net_here", "_law_last", "_law_runs", "_law_k", "_law_start", "_law_goal", "_law_most", "_law_left", "_law_number", "_law_come"]
noncomputable abbrev ps_L_tale : List Str := ["_law_script", "_law_net_here"]
noncomputable def g_L_tale_j1 : Ev → Fl := (ifG (eOp leD (varR 10) (varR 2)) (frzG 10 (appG 3 (eTup (aCons (varR 5) (aCons (varR 6) (aCons (varR 8) (aCons (varR 10) aNil))))))) (.nx))
noncomputable def g_L_tale_j2 : Ev → Fl := (seqG (ifG (eAnd (eOp notND (varR 7) (conR .non)) (eOp eqD (eOp modD (varR 9) (conR (.int 3))) (conR (.int 0)))) (setG 10 (eOp addD (varR 8) (varR 7))) (.nx))
    g_L_tale_j1)
noncomputable def g_L_tale_j3 : Ev → Fl := (seqG (ifG (eOp notND (varR 7) (conR .non)) (setG 10 (eOp addD (eOp addD (varR 8) (conR (.int 1))) (eOp modD (eOp fdivD (varR 9) (conR (.int 3))) (eCall min2D (aCons (varR 7) (aCons (conR (.int 4)) aNil)))))) (.nx))
    g_L_tale_j2)
noncomputable def g_L_tale_b1 : Ev → Fl := (seqG (setG 4 (eOp addD (varR 4) (conR (.int 1))))
    (seqG (setG 9 (eFn 2 φ_L_mix (aCons (eFn 2 φ_L_cell_at (aCons (varR 0) (aCons (eOp addD (conR (.int 3)) (eOp modD (varR 4) (conR (.int 60)))) aNil))) (aCons (varR 4) aNil))))
    (seqG (setG 10 (eOp addD (eOp addD (varR 8) (conR (.int 1))) (eOp modD (eOp fdivD (varR 9) (conR (.int 3))) (conR (.int 4)))))
    (seqG (ifG (eAnd (eOp isND (varR 7) (conR .non)) (eOp eqD (eOp modD (varR 9) (conR (.int 3))) (conR (.int 0)))) (.ct) (.nx))
    g_L_tale_j3))))
noncomputable def g_L_tale_b2 : Ev → Fl := (forG (iRngW (aCons (varR 2) aNil)) (bName 8) g_L_tale_b1)
noncomputable def g_L_tale_j4 : Ev → Fl := (frzG 3 (retG (eTup (aCons (varR 2) (aCons (varR 3) (aCons (eFn 3 φ_L_signs (aCons (varR 0) (aCons (varR 1) (aCons (varR 2) aNil)))) aNil))))))
noncomputable def g_L_tale_j5 : Ev → Fl := (seqG (ifG (eOp eqD (eOp modD (varR 2) (conR (.int 2))) (conR (.int 1))) (setG 3 (eOp stepD (varR 3) (eUn negD (conR (.int 1))))) (.nx))
    g_L_tale_j4)
noncomputable def g_L_tale_j6 : Ev → Fl := (seqG (setG 3 (eLst aNil))
    (seqG (setG 4 (conR (.int 0)))
    (seqG (forG (iLst (eOp idxD (varR 1) (conR (.int 1)))) (bTup 3 (bCons (bName 5) (bCons (bName 6) (bCons (bName 7) bNil)))) g_L_tale_b2)
    g_L_tale_j5)))
noncomputable def g_L_tale : Ev → Fl := (seqG (setG 2 (eOp modD (eFn 2 φ_L_cell_at (aCons (varR 0) (aCons (conR (.int 2)) aNil))) (conR (.int 9))))
    (seqG (ifG (eOp eqD (eOp modD (eOp fdivD (eFn 2 φ_L_mix (aCons (eFn 2 φ_L_cell_at (aCons (varR 0) (aCons (conR (.int 0)) aNil))) (aCons (conR (.int 1)) aNil))) (conR (.int 8))) (conR (.int 8))) (conR (.int 2))) (setG 2 (eOp modD (eFn 2 φ_L_cell_at (aCons (varR 0) (aCons (conR (.int 2)) aNil))) (conR (.int 25)))) (.nx))
    g_L_tale_j6))
noncomputable def φ_L_tale : List D → R := runF 9 g_L_tale
noncomputable abbrev s_L_turned : Stmt := top 17
noncomputable abbrev N_L_turned : List Str := ["_law_number", "_law_net_here", "_law_tale_here", "_law_spot", "_law_view", "_law_last", "_law_runs", "_law_signs_here", "_law_ends_here", "_law_house", "_law_run", "_law_step", "_law_sign"]
noncomputable abbrev ps_L_turned : List Str := ["_law_number", "_law_net_here", "_law_tale_here", "_law_spot"]
noncomputable def g_L_turned_j1 : Ev → Fl := (frzG 7 (frzG 6 (retG (eTup (aCons (varR 5) (aCons (varR 6) (aCons (varR 7) aNil)))))))
noncomputable def g_L_turned_j2 : Ev → Fl := (seqG (ifG (eAnd (eOp eqD (eOp modD (varR 0) (conR (.int 6))) (conR (.int 5))) (eOp ltD (eOp idxD (varR 8) (varR 9)) (varR 5))) (setG 7 (eOp addD (varR 7) (eLst (aCons (eTup (aCons (varR 9) (aCons (eOp addD (eOp idxD (varR 8) (varR 9)) (conR (.int 1))) (aCons (conR (.str (Str.ofString "x"))) aNil)))) aNil)))) (.nx))
    g_L_turned_j1)
noncomputable def g_L_turned_j3 : Ev → Fl := (seqG (ifG (eAnd (eOp eqD (eOp modD (varR 0) (conR (.int 6))) (conR (.int 4))) (eOp geD (eOp idxD (varR 8) (varR 9)) (conR (.int 0)))) (setG 7 (eOp addD (varR 7) (eLst (aCons (eTup (aCons (varR 9) (aCons (eOp idxD (varR 8) (varR 9)) (aCons (conR (.str (Str.ofString "x"))) aNil)))) aNil)))) (.nx))
    g_L_turned_j2)
noncomputable def g_L_turned_j4 : Ev → Fl := (seqG (ifG (eAnd (eOp eqD (eOp modD (varR 0) (conR (.int 6))) (conR (.int 3))) (eOp neD (eOp idxD (varR 4) (conR (.int 2))) (eLst aNil))) (seqG (setG 12 (eOp idxD (eOp idxD (varR 4) (conR (.int 2))) (eOp modD (eOp fdivD (varR 0) (conR (.int 7))) (eCall lenD (aCons (eOp idxD (varR 4) (conR (.int 2))) aNil)))))
    (frzG 7 (setG 7 (eOp addD (eComp ([some 12, none] : List (Option Nat)) (iLst (varR 7)) (bName 1) (eOp neD (varR 1) (varR 0)) (varR 1)) (eLst (aCons (eTup (aCons (eOp idxD (varR 12) (conR (.int 0))) (aCons (eOp idxD (varR 12) (conR (.int 1))) (aCons (eOp addD (conR (.str (Str.ofString "x"))) (eSlS (eOp idxD (varR 12) (conR (.int 2))) (conR (.int 1)))) aNil)))) aNil)))))) (.nx))
    g_L_turned_j3)
noncomputable def g_L_turned_j5 : Ev → Fl := (seqG (ifG (eAnd (eOp eqD (eOp modD (varR 0) (conR (.int 6))) (conR (.int 2))) (eOp neD (eOp idxD (varR 4) (conR (.int 2))) (eLst aNil))) (frzG 7 (frzG 4 (setG 7 (eComp ([some 4, some 0, none] : List (Option Nat)) (iLst (varR 7)) (bName 2) (eOp neD (varR 2) (eOp idxD (eOp idxD (varR 0) (conR (.int 2))) (eOp modD (eOp fdivD (varR 1) (conR (.int 7))) (eCall lenD (aCons (eOp idxD (varR 0) (conR (.int 2))) aNil))))) (varR 2))))) (.nx))
    g_L_turned_j4)
noncomputable def g_L_turned_j6 : Ev → Fl := (seqG (ifG (eAnd (eOp eqD (eOp modD (varR 0) (conR (.int 6))) (conR (.int 1))) (eOp neD (eOp idxD (varR 4) (conR (.int 1))) (eLst aNil))) (seqG (setG 10 (eOp idxD (eOp idxD (varR 4) (conR (.int 1))) (eOp modD (eOp fdivD (varR 0) (conR (.int 7))) (eCall lenD (aCons (eOp idxD (varR 4) (conR (.int 1))) aNil)))))
    (seqG (setG 11 (eOp idxD (eLst (aCons (conR (.int 1)) (aCons (eUn negD (conR (.int 1))) aNil))) (eOp modD (eOp fdivD (varR 0) (conR (.int 70))) (conR (.int 2)))))
    (frzG 6 (setG 6 (eOp addD (eComp ([some 10, none] : List (Option Nat)) (iLst (varR 6)) (bName 1) (eOp neD (varR 1) (varR 0)) (varR 1)) (eLst (aCons (eTup (aCons (eOp idxD (varR 10) (conR (.int 0))) (aCons (eOp idxD (varR 10) (conR (.int 1))) (aCons (eOp idxD (varR 10) (conR (.int 2))) (aCons (eOp addD (eOp idxD (varR 10) (conR (.int 3))) (varR 11)) aNil))))) aNil))))))) (.nx))
    g_L_turned_j5)
noncomputable def g_L_turned : Ev → Fl := (seqG (setG 4 (eFn 3 φ_L_seen (aCons (varR 1) (aCons (varR 2) (aCons (varR 3) aNil)))))
    (seqG (asgG (bTup 3 (bCons (bName 5) (bCons (bName 6) (bCons (bName 7) bNil)))) (varR 2))
    (seqG (setG 8 (eFn 3 φ_L_ends (aCons (varR 1) (aCons (varR 2) (aCons (varR 3) aNil)))))
    (seqG (setG 9 (eOp modD (eOp fdivD (varR 0) (conR (.int 7))) (eOp idxD (varR 1) (conR (.int 0)))))
    (seqG (ifG (eAnd (eOp eqD (eOp modD (varR 0) (conR (.int 6))) (conR (.int 0))) (eOp neD (eOp idxD (varR 4) (conR (.int 1))) (eLst aNil))) (seqG (setG 10 (eOp idxD (eOp idxD (varR 4) (conR (.int 1))) (eOp modD (eOp fdivD (varR 0) (conR (.int 7))) (eCall lenD (aCons (eOp idxD (varR 4) (conR (.int 1))) aNil)))))
    (frzG 6 (setG 6 (eComp ([some 10, none] : List (Option Nat)) (iLst (varR 6)) (bName 1) (eOp neD (varR 1) (varR 0)) (varR 1))))) (.nx))
    g_L_turned_j6)))))
noncomputable def φ_L_turned : List D → R := runF 9 g_L_turned
noncomputable abbrev s_P_come_of : Stmt := top 3
noncomputable abbrev N_P_come_of : List Str := ["run"]
noncomputable abbrev ps_P_come_of : List Str := ["run"]
noncomputable def g_P_come_of : Ev → Fl := (retG (eOp idxD (varR 0) (conR (.int 3))))
noncomputable def φ_P_come_of : List D → R := runF 0 g_P_come_of
noncomputable abbrev s_P_walk_back : Stmt := top 2
noncomputable abbrev N_P_walk_back : List Str := ["net", "tale", "spot", "bests", "start", "goal", "left", "come"]
noncomputable abbrev ps_P_walk_back : List Str := ["net", "tale", "spot"]
noncomputable def g_P_walk_back_b1 : Ev → Fl := (ifG (eAnd (eOp leD (varR 7) (eOp idxD (eOp idxD (varR 3) (varR 5)) (conR (.int 0)))) (eOp gtD (varR 6) (eOp idxD (eOp idxD (varR 3) (varR 4)) (conR (.int 0))))) (setItG 3 (varR 4) (eTup (aCons (varR 6) (aCons (eTup (aCons (varR 4) (aCons (varR 5) (aCons (varR 6) (aCons (varR 7) aNil))))) aNil)))) (.nx))
noncomputable def g_P_walk_back : Ev → Fl := (seqG (setG 3 (eOp mulD (eLst (aCons (eTup (aCons (eUn negD (conR (.int 1))) (aCons (conR .non) aNil))) aNil)) (eOp idxD (varR 0) (conR (.int 0)))))
    (seqG (setItG 3 (eOp idxD (varR 2) (conR (.int 0))) (eTup (aCons (eOp idxD (varR 2) (conR (.int 1))) (aCons (conR .non) aNil))))
    (seqG (forG (iLst (eSortK φ_P_come_of true (eOp idxD (varR 1) (conR (.int 1))))) (bTup 4 (bCons (bName 4) (bCons (bName 5) (bCons (bName 6) (bCons (bName 7) bNil))))) g_P_walk_back_b1)
    (retVarG 3))))
noncomputable def φ_P_walk_back : List D → R := runF 5 g_P_walk_back
noncomputable abbrev s_P_heard_by : Stmt := top 1
noncomputable abbrev N_P_heard_by : List Str := ["net", "tale", "spot"]
noncomputable abbrev ps_P_heard_by : List Str := ["net", "tale", "spot"]
noncomputable def g_P_heard_by : Ev → Fl := (retG (eComp ([none] : List (Option Nat)) (iLst (eFn 3 φ_P_walk_back (aCons (varR 0) (aCons (varR 1) (aCons (varR 2) aNil))))) (bName 0) (conR (.bl true)) (eOp idxD (varR 0) (conR (.int 0)))))
noncomputable def φ_P_heard_by : List D → R := runF 0 g_P_heard_by
noncomputable abbrev s_P_seen : Stmt := top 5
noncomputable abbrev N_P_seen : List Str := ["net", "tale", "spot", "heard", "runs", "signs"]
noncomputable abbrev ps_P_seen : List Str := ["net", "tale", "spot"]
noncomputable def g_P_seen : Ev → Fl := (seqG (setG 3 (eFn 3 φ_P_heard_by (aCons (varR 0) (aCons (varR 1) (aCons (varR 2) aNil)))))
    (frzG 3 (seqG (setG 4 (eComp ([some 3, none] : List (Option Nat)) (iLst (eOp idxD (varR 1) (conR (.int 1)))) (bName 1) (eOp leD (eOp idxD (varR 1) (conR (.int 3))) (eOp idxD (varR 0) (eOp idxD (varR 1) (conR (.int 1))))) (varR 1)))
    (frzG 3 (seqG (setG 5 (eComp ([some 3, none] : List (Option Nat)) (iLst (eOp idxD (varR 1) (conR (.int 2)))) (bName 1) (eOp leD (eOp idxD (varR 1) (conR (.int 1))) (eOp idxD (varR 0) (eOp idxD (varR 1) (conR (.int 0))))) (varR 1)))
    (retG (eTup (aCons (varR 2) (aCons (eSortT (varR 4)) (aCons (eSortT (varR 5)) aNil))))))))))
noncomputable def φ_P_seen : List D → R := runF 3 g_P_seen
noncomputable abbrev s_P_alike : Stmt := top 6
noncomputable abbrev N_P_alike : List Str := ["net", "one", "other", "spot"]
noncomputable abbrev ps_P_alike : List Str := ["net", "one", "other", "spot"]
noncomputable def g_P_alike : Ev → Fl := (retG (eOp eqD (eFn 3 φ_P_seen (aCons (varR 0) (aCons (varR 1) (aCons (varR 3) aNil)))) (eFn 3 φ_P_seen (aCons (varR 0) (aCons (varR 2) (aCons (varR 3) aNil))))))
noncomputable def φ_P_alike : List D → R := runF 0 g_P_alike
noncomputable abbrev s_law : Stmt := top 18
noncomputable abbrev N_law : List Str := ["_law_script", "_law_net_here", "_law_tale_here", "_law_number", "_law_spot", "_law_other_here", "_law_due", "_law_handed", "_law_one", "_law_two", "_law_found"]
noncomputable abbrev ps_law : List Str := ["_law_script"]
noncomputable def g_law_b1 : Ev → Fl := (seqG (setG 10 (eFn 4 φ_P_alike (aCons (varR 1) (aCons (varR 8) (aCons (varR 9) (aCons (varR 4) aNil))))))
    (ifG (eOr (eNot (eCall isiD (aCons (varR 10) (aCons (conR (.ty "bool")) aNil)))) (eOp neD (varR 10) (varR 6))) (retG (conR (.bl false))) (.nx)))
noncomputable def g_law_j1 : Ev → Fl := (frzG 5 (frzG 2 (retG (eOp eqD (varR 7) (eLst (aCons (varR 2) (aCons (varR 5) aNil)))))))
noncomputable def g_law_j2 : Ev → Fl := (frzG 5 (frzG 2 (frzG 1 (seqG (setG 6 (eOp eqD (eFn 3 φ_L_seen (aCons (varR 1) (aCons (varR 2) (aCons (varR 4) aNil)))) (eFn 3 φ_L_seen (aCons (varR 1) (aCons (varR 5) (aCons (varR 4) aNil))))))
    (seqG (setG 7 (eLst (aCons (eTup (aCons (eOp idxD (varR 2) (conR (.int 0))) (aCons (eCall listD (aCons (eOp idxD (varR 2) (conR (.int 1))) aNil)) (aCons (eCall listD (aCons (eOp idxD (varR 2) (conR (.int 2))) aNil)) aNil)))) (aCons (eTup (aCons (eOp idxD (varR 5) (conR (.int 0))) (aCons (eCall listD (aCons (eOp idxD (varR 5) (conR (.int 1))) aNil)) (aCons (eCall listD (aCons (eOp idxD (varR 5) (conR (.int 2))) aNil)) aNil)))) aNil))))
    (seqG (forG (iLst (eLst (aCons (eTup (aCons (eOp idxD (varR 7) (conR (.int 0))) (aCons (eOp idxD (varR 7) (conR (.int 1))) aNil))) (aCons (eTup (aCons (eOp idxD (varR 7) (conR (.int 1))) (aCons (eOp idxD (varR 7) (conR (.int 0))) aNil))) aNil)))) (bTup 2 (bCons (bName 8) (bCons (bName 9) bNil))) g_law_b1)
    g_law_j1))))))
noncomputable def g_law_j3 : Ev → Fl := (seqG (ifG (eAnd (eOp eqD (eOp modD (eOp fdivD (varR 3) (conR (.int 150))) (conR (.int 2))) (conR (.int 1))) (eFn 2 φ_L_good (aCons (varR 1) (aCons (eTup (aCons (eOp addD (eOp idxD (varR 2) (conR (.int 0))) (conR (.int 1))) (aCons (eOp idxD (varR 5) (conR (.int 1))) (aCons (eOp idxD (varR 5) (conR (.int 2))) aNil)))) aNil)))) (setG 5 (eTup (aCons (eOp addD (eOp idxD (varR 2) (conR (.int 0))) (conR (.int 1))) (aCons (eOp idxD (varR 5) (conR (.int 1))) (aCons (eOp idxD (varR 5) (conR (.int 2))) aNil))))) (.nx))
    g_law_j2)
noncomputable def g_law_j4 : Ev → Fl := (seqG (ifG (eNot (eFn 2 φ_L_good (aCons (varR 1) (aCons (varR 5) aNil)))) (frzG 2 (setG 5 (varR 2))) (.nx))
    g_law_j3)
noncomputable def g_law : Ev → Fl := (seqG (setG 1 (eFn 1 φ_L_net (aCons (varR 0) aNil)))
    (frzG 1 (seqG (setG 2 (eFn 2 φ_L_tale (aCons (varR 0) (aCons (varR 1) aNil))))
    (seqG (setG 3 (eFn 2 φ_L_mix (aCons (eFn 2 φ_L_cell_at (aCons (varR 0) (aCons (conR (.int 4)) aNil))) (aCons (conR (.int 4)) aNil))))
    (seqG (setG 4 (eTup (aCons (eOp modD (varR 3) (eOp idxD (varR 1) (conR (.int 0)))) (aCons (eOp modD (eOp fdivD (varR 3) (conR (.int 5))) (eOp addD (eOp idxD (varR 2) (conR (.int 0))) (conR (.int 1)))) aNil))))
    (frzG 2 (frzG 1 (seqG (setG 5 (eFn 5 φ_L_other (aCons (varR 0) (aCons (varR 1) (aCons (varR 2) (aCons (varR 4) (aCons (conR (.int 300)) aNil)))))))
    (seqG (ifG (eOp gtD (eOp modD (eOp fdivD (varR 3) (conR (.int 50))) (conR (.int 3))) (conR (.int 0))) (frzG 5 (frzG 1 (setG 5 (eFn 4 φ_L_turned (aCons (eFn 2 φ_L_mix (aCons (eFn 2 φ_L_cell_at (aCons (varR 0) (aCons (conR (.int 5)) aNil))) (aCons (conR (.int 5)) aNil))) (aCons (varR 1) (aCons (varR 5) (aCons (varR 4) aNil)))))))) (.nx))
    g_law_j4)))))))))
noncomputable def φ_law : List D → R := runF 10 g_law
section
variable {P : Program} {w : World} {K : PySem.W.Frag} {mg : Str → Option Value} {base : Heap}
theorem sc_L_cell_at : FnScope N_L_cell_at ps_L_cell_at (defScope s_L_cell_at) := ⟨rfl, rfl, rfl, by decide +kernel, rfl, by decide +kernel, by decide +kernel⟩
theorem ok_L_cell_at {f : Addr} {fd : FuncData} (Fn : Fun K "_law_cell_at" "_law_cell_at" s_L_cell_at f fd) (m_len : mg "len" = none) : FnOk P w K mg base CX0 1 f fd ps_L_cell_at (spV0 K φ_L_cell_at 2) :=
  fn_ok (N := N_L_cell_at) (ps := ps_L_cell_at) (k := 0) (g := g_L_cell_at) Fn sc_L_cell_at (fun cdv A outer s H E F0 hr => let hu := room_u hr; (vs_cons (vs_if (vt_cmp c_lt (v_var 1) (v_len m_len (va_cons (v_var 0) va_nil))) (vs_one (vs_ret (v_idx hu (v_var 0) (v_var 1)))) vs_nil)
    (vs_one (vs_ret v_int))))
theorem sc_L_good : FnScope N_L_good ps_L_good (defScope s_L_good) := ⟨rfl, rfl, rfl, by decide +kernel, rfl, by decide +kernel, by decide +kernel⟩
theorem ok_L_good {f : Addr} {fd : FuncData} (Fn : Fun K "_law_good" "_law_good" s_L_good f fd) (m_isinstance : mg "isinstance" = none) (m_len : mg "len" = none) (m_range : mg "range" = none) (m_tuple : mg "tuple" = none) : FnOk P w K mg base CX0 1 f fd ps_L_good (spV0 K φ_L_good 2) :=
  fn_ok (N := N_L_good) (ps := ps_L_good) (k := 0) (g := g_L_good) Fn sc_L_good (fun cdv A outer s H E F0 hr => let hu := room_u hr; (vs_cons (vs_set 2 sc_L_good.nd v_dT)
    (vs_cons (vs_for .never rfl (vi_list (v_idx hu (v_var 0) v_int)) (vg_tup rfl (vg_cons (vg_name 3 sc_L_good.nd) (vg_cons (vg_name 4 sc_L_good.nd) (vg_cons (vg_name 5 sc_L_good.nd) vg_nil))))
    (vs_one (vs_setit hu 2 (v_var 5) (v_tup (va_cons (v_var 3) (va_cons (v_var 4) va_nil))))))
    (vs_cons (vs_set 6 sc_L_good.nd v_dT)
    (vs_cons (vs_for .never rfl (vi_list (v_idx hu (v_var 1) v_int)) (vg_name 7 sc_L_good.nd)
    (vs_cons (vs_if (vt_w (vw_or (vt_not (vt_val (v_isi m_isinstance (va_cons (v_var 7) (va_cons (v_ty m_tuple) va_nil))))) (vw_or (vt_cmp (c_ne hu) (v_len m_len (va_cons (v_var 7) va_nil)) v_int) (vw_or (vt_cmp (c_notin hu) (v_sl (v_var 7) vo_none (vo_some v_int)) (v_var 2)) (vw_or1 (vt_cmp (c_in hu) (v_sl (v_var 7) vo_none (vo_some v_int)) (v_var 6))))))) (vs_one (vs_ret v_bl)) vs_nil)
    (vs_cons (vs_set 5 sc_L_good.nd (v_idx hu (v_var 2) (v_sl (v_var 7) vo_none (vo_some v_int))))
    (vs_cons (vs_if (vt_w (vw_or (vt_cmp c_lt (v_idx hu (v_var 7) v_int) v_int) (vw_or (vt_cmp c_le (v_idx hu (v_var 7) v_int) (v_idx hu (v_var 7) v_int)) (vw_or (vt_cmp c_gt (v_idx hu (v_var 7) v_int) (v_idx hu (v_var 1) v_int)) (vw_or1 (vt_w (vw_and (vt_cmp c_notN (v_var 5) v_non) (vw_and1 (vt_cmp c_gt (v_idx hu (v_var 7) v_int) (v_add (v_idx hu (v_var 7) v_int) (v_var 5))))))))))) (vs_one (vs_ret v_bl)) vs_nil)
    (vs_one (vs_setit hu 6 v_bl (v_sl (v_var 7) vo_none (vo_some v_int))))))))
    (vs_cons (vs_for .never rfl (vi_list (v_idx hu (v_var 0) v_int)) (vg_tup rfl (vg_cons (vg_name 3 sc_L_good.nd) (vg_cons (vg_name 4 sc_L_good.nd) (vg_cons (vg_name 5 sc_L_good.nd) vg_nil))))
    (vs_one (vs_if (vt_cmp c_notN (v_var 5) v_non) (vs_one (vs_for .never rfl (vi_rngW m_range (va_cons (v_add (v_sub (v_idx hu (v_var 1) v_int) (v_var 5)) v_int) va_nil)) (vg_name 8 sc_L_good.nd)
    (vs_one (vs_if (vt_cmp (c_notin hu) (v_tup (va_cons (v_var 3) (va_cons (v_var 4) (va_cons (v_var 8) va_nil)))) (v_var 6)) (vs_one (vs_ret v_bl)) vs_nil)))) vs_nil)))
    (vs_cons (vs_for .never rfl (vi_list (v_idx hu (v_var 1) v_int)) (vg_name 9 sc_L_good.nd)
    (vs_cons (vs_if (vt_w (vw_or (vt_not (vt_val (v_isi m_isinstance (va_cons (v_var 9) (va_cons (v_ty m_tuple) va_nil))))) (vw_or (vt_cmp (c_ne hu) (v_len m_len (va_cons (v_var 9) va_nil)) v_int) (vw_or1 (vt_not (vt_chain c_le c_lt v_int (v_idx hu (v_var 9) v_int) (v_idx hu (v_var 0) v_int))))))) (vs_one (vs_ret v_bl)) vs_nil)
    (vs_one (vs_if (vt_w (vw_or (vt_not (vt_chain c_le c_le v_int (v_idx hu (v_var 9) v_int) (v_idx hu (v_var 1) v_int))) (vw_or1 (vt_cmp (c_ne hu) (v_cnt hu (v_idx hu (v_var 1) v_int) (v_var 9)) v_int)))) (vs_one (vs_ret v_bl)) vs_nil))))
    (vs_one (vs_ret v_bl)))))))))
theorem sc_L_mix : FnScope N_L_mix ps_L_mix (defScope s_L_mix) := ⟨rfl, rfl, rfl, by decide +kernel, rfl, by decide +kernel, by decide +kernel⟩
theorem ok_L_mix {f : Addr} {fd : FuncData} (Fn : Fun K "_law_mix" "_law_mix" s_L_mix f fd) : FnOk P w K mg base CX0 1 f fd ps_L_mix (spV0 K φ_L_mix 2) :=
  fn_ok (N := N_L_mix) (ps := ps_L_mix) (k := 0) (g := g_L_mix) Fn sc_L_mix (fun cdv A outer s H E F0 hr => (vs_cons (vs_set 2 sc_L_mix.nd (v_mod (v_mul (v_add (v_add (v_mod (v_var 0) v_int) (v_mul (v_mul (v_var 1) (v_var 1)) v_int)) (v_var 1)) v_int) v_int))
    (vs_one (vs_ret (v_fdiv (v_mod (v_mul (v_var 2) (v_var 2)) v_int) v_int)))))
theorem sc_L_net : FnScope N_L_net ps_L_net (defScope s_L_net) := ⟨rfl, rfl, rfl, by decide +kernel, rfl, by decide +kernel, by decide +kernel⟩
theorem ok_L_net {f : Addr} {fd : FuncData} (Fn : Fun K "_law_net" "_law_net" s_L_net f fd) (m_abs : mg "abs" = none) (m_range : mg "range" = none) (C_L_cell_at : Callee P w K mg base 1 "_law_cell_at" 2 φ_L_cell_at) (C_L_mix : Callee P w K mg base 1 "_law_mix" 2 φ_L_mix) : FnOk P w K mg base CX0 2 f fd ps_L_net (spV0 K φ_L_net 1) :=
  fn_ok (N := N_L_net) (ps := ps_L_net) (k := 1) (g := g_L_net) Fn sc_L_net (fun cdv A outer s H E F0 hr => let hu := room_u hr; (vs_cons (vs_set 1 sc_L_net.nd (v_fn C_L_mix (hr.mono (by decide)) (va_cons (v_fn C_L_cell_at (hr.mono (by decide)) (va_cons (v_var 0) (va_cons v_int va_nil))) (va_cons v_int va_nil))))
    (vs_cons (vs_set 2 sc_L_net.nd (v_add v_int (v_mod (v_fn C_L_cell_at (hr.mono (by decide)) (va_cons (v_var 0) (va_cons v_int va_nil))) v_int)))
    (vs_cons (vs_if (vt_cmp (c_eq hu) (v_mod (v_fdiv (v_var 1) v_int) v_int) v_int) (vs_one (vs_set 2 sc_L_net.nd (v_add v_int (v_mod (v_fdiv (v_var 1) v_int) v_int)))) vs_nil)
    (vs_cons (vs_if (vt_cmp (c_eq hu) (v_mod (v_fdiv (v_var 1) v_int) v_int) v_int) (vs_one (vs_set 2 sc_L_net.nd v_int)) vs_nil)
    (vs_cons (vs_set 3 sc_L_net.nd (v_lst va_nil))
    (vs_cons (vs_for .never rfl (vi_rngW m_range (va_cons (v_var 2) va_nil)) (vg_name 4 sc_L_net.nd)
    (vs_one (vs_for .never rfl (vi_rngW m_range (va_cons (v_var 2) va_nil)) (vg_name 5 sc_L_net.nd)
    (vs_cons (vs_set 6 sc_L_net.nd (v_fn C_L_mix (hr.mono (by decide)) (va_cons (v_fn C_L_cell_at (hr.mono (by decide)) (va_cons (v_var 0) (va_cons v_int va_nil))) (va_cons (v_add (v_mul v_int (v_var 4)) (v_var 5)) va_nil))))
    (vs_cons (vs_set 7 sc_L_net.nd (v_and (v_cmp c_gt (v_abs m_abs (va_cons (v_sub (v_var 5) (v_var 4)) va_nil)) v_int) (v_one (v_or (v_cmp (c_eq hu) (v_mod (v_var 1) v_int) v_int) (v_one (v_cmp c_gt (v_var 2) v_int))))))
    (vs_cons (vs_if (vt_w (vw_or (vt_cmp (c_eq hu) (v_var 4) (v_var 5)) (vw_or (vt_val (v_var 7)) (vw_or1 (vt_cmp (c_eq hu) (v_mod (v_var 6) v_int) v_int))))) (vs_one vs_continue) vs_nil)
    (vs_cons (vs_set 8 sc_L_net.nd (v_idx hu (v_lst (va_cons v_non (va_cons v_int (va_cons v_int (va_cons (v_add v_int (v_mod (v_fdiv (v_var 6) v_int) v_int)) (va_cons (v_add (v_pow v_int v_int) (v_var 6)) va_nil)))))) (v_sub (v_mod (v_var 6) v_int) v_int)))
    (vs_one (vs_app 3 (v_tup (va_cons (v_var 4) (va_cons (v_var 5) (va_cons (v_var 8) va_nil)))))))))))))
    (vs_cons (vs_if (vt_cmp (c_eq hu) (v_mod (v_fdiv (v_var 1) v_int) v_int) v_int) (vs_one (vs_set 3 sc_L_net.nd (v_step (v_var 3) (v_neg v_int)))) vs_nil)
    (vs_frz 3 (vs_frz 2 (vs_one (vs_ret (v_tup (va_cons (v_var 2) (va_cons (v_var 3) va_nil)))))))))))))))
theorem sc_L_ends : FnScope N_L_ends ps_L_ends (defScope s_L_ends) := ⟨rfl, rfl, rfl, by decide +kernel, rfl, by decide +kernel, by decide +kernel⟩
theorem ok_L_ends {f : Addr} {fd : FuncData} (Fn : Fun K "_law_ends" "_law_ends" s_L_ends f fd) : FnOk P w K mg base CX0 1 f fd ps_L_ends (spV0 K φ_L_ends 3) :=
  fn_ok (N := N_L_ends) (ps := ps_L_ends) (k := 0) (g := g_L_ends) Fn sc_L_ends (fun cdv A outer s H E F0 hr => let hu := room_u hr; (vs_cons (vs_set 3 sc_L_ends.nd (v_mul (v_lst (va_cons (v_neg v_int) va_nil)) (v_idx hu (v_var 0) v_int)))
    (vs_cons (vs_setit hu 3 (v_idx hu (v_var 2) v_int) (v_idx hu (v_var 2) v_int))
    (vs_cons (vs_set 4 sc_L_ends.nd v_bl)
    (vs_cons (vs_while 100000 .never (vt_val (v_var 4)) (vs_cons (vs_set 4 sc_L_ends.nd v_bl)
    (vs_one (vs_for .never rfl (vi_list (v_idx hu (v_var 1) v_int)) (vg_tup rfl (vg_cons (vg_name 5 sc_L_ends.nd) (vg_cons (vg_name 6 sc_L_ends.nd) (vg_cons (vg_name 7 sc_L_ends.nd) (vg_cons (vg_name 8 sc_L_ends.nd) vg_nil)))))
    (vs_one (vs_if (vt_w (vw_and (vt_cmp c_le (v_var 8) (v_idx hu (v_var 3) (v_var 6))) (vw_and1 (vt_cmp c_gt (v_var 7) (v_idx hu (v_var 3) (v_var 5)))))) (vs_cons (vs_setit hu 3 (v_var 7) (v_var 5))
    (vs_one (vs_set 4 sc_L_ends.nd v_bl))) vs_nil))))))
    (vs_one (vs_retv 3)))))))
theorem sc_L_other : FnScope N_L_other ps_L_other (defScope s_L_other) := ⟨rfl, rfl, rfl, by decide +kernel, rfl, by decide +kernel, by decide +kernel⟩
theorem ok_L_other {f : Addr} {fd : FuncData} (Fn : Fun K "_law_other" "_law_other" s_L_other f fd) (m_max : mg "max" = none) (m_min : mg "min" = none) (m_range : mg "range" = none) (C_L_cell_at : Callee P w K mg base 1 "_law_cell_at" 2 φ_L_cell_at) (C_L_ends : Callee P w K mg base 1 "_law_ends" 3 φ_L_ends) (C_L_mix : Callee P w K mg base 1 "_law_mix" 2 φ_L_mix) : FnOk P w K mg base CX0 2 f fd ps_L_other (spV0 K φ_L_other 5) :=
  fn_ok (N := N_L_other) (ps := ps_L_other) (k := 1) (g := g_L_other) Fn sc_L_other (fun cdv A outer s H E F0 hr => let hu := room_u hr; (vs_cons (vs_set 5 sc_L_other.nd (v_fn C_L_ends (hr.mono (by decide)) (va_cons (v_var 1) (va_cons (v_var 2) (va_cons (v_var 3) va_nil)))))
    (vs_frz 5 (vs_cons (vs_comp 6 (osc := defScope s_L_other) (N := N_L_other) ["_law_ends_here", "_law_run"] ([some 5, none] : List (Option Nat)) [1] rfl rfl sc_L_other.nd ⟨rfl, by decide +kernel, by decide +kernel, by decide +kernel, rfl, by decide +kernel⟩ rfl (vi_list (v_idx hu (v_var 2) v_int)) (bo_name 1) (fun _ _ _ _ => ⟨(vg_name 1 (show (["_law_ends_here", "_law_run"] : List Str).Nodup by decide +kernel)), (vf_one (vt_cmp c_le (v_idx hu (v_var 1) v_int) (v_idx hu (v_var 0) (v_idx hu (v_var 1) v_int)))), (v_var 1)⟩))
    (vs_cons (vs_compU 6 7 (osc := defScope s_L_other) (N := N_L_other) ["_law_run"] ([none] : List (Option Nat)) [0] rfl rfl sc_L_other.nd ⟨rfl, by decide +kernel, by decide +kernel, by decide +kernel, rfl, by decide +kernel⟩ rfl (vi_list (v_var 6)) (bo_name 0) (fun _ _ _ _ => ⟨(vg_name 0 (show (["_law_run"] : List Str).Nodup by decide +kernel)), vf_nil, (v_sl (v_var 0) vo_none (vo_some v_int))⟩))
    (vs_cons (vs_set 8 sc_L_other.nd (v_var 4))
    (vs_cons (vs_for .never rfl (vi_list (v_idx hu (v_var 1) v_int)) (vg_tup rfl (vg_cons (vg_name 9 sc_L_other.nd) (vg_cons (vg_name 10 sc_L_other.nd) (vg_cons (vg_name 11 sc_L_other.nd) vg_nil))))
    (vs_one (vs_for .never rfl (vi_rngW m_range (va_cons (v_idx hu (v_var 2) v_int) va_nil)) (vg_name 12 sc_L_other.nd)
    (vs_cons (vs_set 8 sc_L_other.nd (v_add (v_var 8) v_int))
    (vs_cons (vs_set 13 sc_L_other.nd (v_fn C_L_mix (hr.mono (by decide)) (va_cons (v_fn C_L_cell_at (hr.mono (by decide)) (va_cons (v_var 0) (va_cons (v_add v_int (v_mod (v_var 8) v_int)) va_nil))) (va_cons (v_var 8) va_nil))))
    (vs_cons (vs_set 14 sc_L_other.nd (v_add (v_max2 rfl m_max (va_cons (v_var 12) (va_cons (v_idx hu (v_var 5) (v_var 10)) va_nil))) v_int))
    (vs_cons (vs_if (vt_w (vw_or (vt_cmp (c_in hu) (v_tup (va_cons (v_var 9) (va_cons (v_var 10) (va_cons (v_var 12) va_nil)))) (v_var 7)) (vw_or1 (vt_w (vw_and (vt_cmp c_isN (v_var 11) v_non) (vw_and1 (vt_cmp (c_eq hu) (v_mod (v_var 13) v_int) v_int))))))) (vs_one vs_continue) vs_nil)
    (vs_cons (vs_set 15 sc_L_other.nd (v_add (v_var 14) (v_mod (v_fdiv (v_var 13) v_int) v_int)))
    (vs_cons (vs_if (vt_cmp c_notN (v_var 11) v_non) (vs_one (vs_set 15 sc_L_other.nd (v_add (v_var 14) (v_mod (v_fdiv (v_var 13) v_int) (v_min2 rfl m_min (va_cons v_int (va_cons (v_add (v_sub (v_add (v_var 12) (v_var 11)) (v_var 14)) v_int) va_nil))))))) vs_nil)
    (vs_one (vs_if (vt_cmp c_le (v_var 15) (v_idx hu (v_var 2) v_int)) (vs_frz 15 (vs_one (vs_app 6 (v_tup (va_cons (v_var 9) (va_cons (v_var 10) (va_cons (v_var 12) (va_cons (v_var 15) va_nil)))))))) vs_nil)))))))))))
    (vs_frz 5 (vs_cons (vs_comp 16 (osc := defScope s_L_other) (N := N_L_other) ["_law_ends_here", "_law_sign"] ([some 5, none] : List (Option Nat)) [1] rfl rfl sc_L_other.nd ⟨rfl, by decide +kernel, by decide +kernel, by decide +kernel, rfl, by decide +kernel⟩ rfl (vi_list (v_idx hu (v_var 2) v_int)) (bo_name 1) (fun _ _ _ _ => ⟨(vg_name 1 (show (["_law_ends_here", "_law_sign"] : List Str).Nodup by decide +kernel)), (vf_one (vt_cmp c_le (v_idx hu (v_var 1) v_int) (v_idx hu (v_var 0) (v_idx hu (v_var 1) v_int)))), (v_var 1)⟩))
    (vs_cons (vs_for .never rfl (vi_rngW m_range (va_cons (v_idx hu (v_var 1) v_int) va_nil)) (vg_name 17 sc_L_other.nd)
    (vs_cons (vs_set 13 sc_L_other.nd (v_fn C_L_mix (hr.mono (by decide)) (va_cons (v_fn C_L_cell_at (hr.mono (by decide)) (va_cons (v_var 0) (va_cons (v_add v_int (v_var 17)) va_nil))) (va_cons (v_add (v_var 8) (v_var 17)) va_nil))))
    (vs_one (vs_if (vt_w (vw_and (vt_cmp c_lt (v_idx hu (v_var 5) (v_var 17)) (v_idx hu (v_var 2) v_int)) (vw_and1 (vt_cmp (c_eq hu) (v_mod (v_var 13) v_int) v_int)))) (vs_one (vs_app 16 (v_tup (va_cons (v_var 17) (va_cons (v_add (v_idx hu (v_var 5) (v_var 17)) v_int) (va_cons (v_idx hu (v_lst (va_cons v_str (va_cons v_str (va_cons v_str va_nil)))) (v_mod (v_fdiv (v_var 13) v_int) v_int)) va_nil)))))) vs_nil))))
    (vs_frz 16 (vs_frz 6 (vs_one (vs_ret (v_tup (va_cons (v_idx hu (v_var 2) v_int) (va_cons (v_var 6) (va_cons (v_var 16) va_nil))))))))))))))))))
theorem sc_L_seen : FnScope N_L_seen ps_L_seen (defScope s_L_seen) := ⟨rfl, rfl, rfl, by decide +kernel, rfl, by decide +kernel, by decide +kernel⟩
theorem ok_L_seen {f : Addr} {fd : FuncData} (Fn : Fun K "_law_seen" "_law_seen" s_L_seen f fd) (m_sorted : mg "sorted" = none) (C_L_ends : Callee P w K mg base 1 "_law_ends" 3 φ_L_ends) : FnOk P w K mg base CX0 2 f fd ps_L_seen (spV0 K φ_L_seen 3) :=
  fn_ok (N := N_L_seen) (ps := ps_L_seen) (k := 1) (g := g_L_seen) Fn sc_L_seen (fun cdv A outer s H E F0 hr => let hu := room_u hr; (vs_cons (vs_set 3 sc_L_seen.nd (v_fn C_L_ends (hr.mono (by decide)) (va_cons (v_var 0) (va_cons (v_var 1) (va_cons (v_var 2) va_nil)))))
    (vs_frz 3 (vs_cons (vs_comp 4 (osc := defScope s_L_seen) (N := N_L_seen) ["_law_ends_here", "_law_run"] ([some 3, none] : List (Option Nat)) [1] rfl rfl sc_L_seen.nd ⟨rfl, by decide +kernel, by decide +kernel, by decide +kernel, rfl, by decide +kernel⟩ rfl (vi_list (v_idx hu (v_var 1) v_int)) (bo_name 1) (fun _ _ _ _ => ⟨(vg_name 1 (show (["_law_ends_here", "_law_run"] : List Str).Nodup by decide +kernel)), (vf_one (vt_cmp c_le (v_idx hu (v_var 1) v_int) (v_idx hu (v_var 0) (v_idx hu (v_var 1) v_int)))), (v_var 1)⟩))
    (vs_frz 3 (vs_cons (vs_comp 5 (osc := defScope s_L_seen) (N := N_L_seen) ["_law_ends_here", "_law_sign"] ([some 3, none] : List (Option Nat)) [1] rfl rfl sc_L_seen.nd ⟨rfl, by decide +kernel, by decide +kernel, by decide +kernel, rfl, by decide +kernel⟩ rfl (vi_list (v_idx hu (v_var 1) v_int)) (bo_name 1) (fun _ _ _ _ => ⟨(vg_name 1 (show (["_law_ends_here", "_law_sign"] : List Str).Nodup by decide +kernel)), (vf_one (vt_cmp c_le (v_idx hu (v_var 1) v_int) (v_idx hu (v_var 0) (v_idx hu (v_var 1) v_int)))), (v_var 1)⟩))
    (vs_one (vs_ret (v_tup (va_cons (v_var 2) (va_cons (v_sortT m_sorted (v_var 4)) (va_cons (v_sortT m_sorted (v_var 5)) va_nil))))))))))))
theorem sc_L_signs : FnScope N_L_signs ps_L_signs (defScope s_L_signs) := ⟨rfl, rfl, rfl, by decide +kernel, rfl, by decide +kernel, by decide +kernel⟩
theorem ok_L_signs {f : Addr} {fd : FuncData} (Fn : Fun K "_law_signs" "_law_signs" s_L_signs f fd) (m_range : mg "range" = none) (C_L_cell_at : Callee P w K mg base 1 "_law_cell_at" 2 φ_L_cell_at) (C_L_mix : Callee P w K mg base 1 "_law_mix" 2 φ_L_mix) : FnOk P w K mg base CX0 2 f fd ps_L_signs (spV0 K φ_L_signs 3) :=
  fn_ok (N := N_L_signs) (ps := ps_L_signs) (k := 1) (g := g_L_signs) Fn sc_L_signs (fun cdv A outer s H E F0 hr => let hu := room_u hr; (vs_cons (vs_set 3 sc_L_signs.nd (v_lst va_nil))
    (vs_cons (vs_set 4 sc_L_signs.nd (v_mod (v_fdiv (v_fn C_L_cell_at (hr.mono (by decide)) (va_cons (v_var 0) (va_cons v_int va_nil))) v_int) v_int))
    (vs_cons (vs_set 5 sc_L_signs.nd (v_lst (va_cons v_str (va_cons v_str (va_cons v_str (va_cons v_str va_nil))))))
    (vs_cons (vs_if (vt_cmp (c_eq hu) (v_mod (v_fdiv (v_fn C_L_cell_at (hr.mono (by decide)) (va_cons (v_var 0) (va_cons v_int va_nil))) v_int) v_int) v_int) (vs_one (vs_set 5 sc_L_signs.nd (v_lst (va_cons v_str (va_cons (v_add (v_add (v_mul v_str (v_var 4)) v_str) (v_mul v_str (v_sub v_int (v_var 4)))) (va_cons (v_add (v_add (v_mul v_str (v_var 4)) v_str) (v_mul v_str (v_sub v_int (v_var 4)))) (va_cons (v_mul v_str v_int) va_nil))))))) vs_nil)
    (vs_cons (vs_for .never rfl (vi_rngW m_range (va_cons (v_mod (v_fn C_L_mix (hr.mono (by decide)) (va_cons (v_fn C_L_cell_at (hr.mono (by decide)) (va_cons (v_var 0) (va_cons v_int va_nil))) (va_cons v_int va_nil))) v_int) va_nil)) (vg_name 6 sc_L_signs.nd)
    (vs_cons (vs_set 7 sc_L_signs.nd (v_fn C_L_mix (hr.mono (by decide)) (va_cons (v_fn C_L_cell_at (hr.mono (by decide)) (va_cons (v_var 0) (va_cons (v_add v_int (v_var 6)) va_nil))) (va_cons (v_add v_int (v_var 6)) va_nil))))
    (vs_cons (vs_set 8 sc_L_signs.nd (v_tup (va_cons (v_mod (v_var 7) (v_idx hu (v_var 1) v_int)) (va_cons (v_mod (v_fdiv (v_var 7) v_int) (v_add (v_var 2) v_int)) (va_cons (v_idx hu (v_var 5) (v_mod (v_fdiv (v_var 7) v_int) v_int)) va_nil)))))
    (vs_one (vs_if (vt_cmp (c_notin hu) (v_var 8) (v_var 3)) (vs_one (vs_app 3 (v_var 8))) vs_nil)))))
    (vs_one (vs_retv 3))))))))
theorem sc_L_tale : FnScope N_L_tale ps_L_tale (defScope s_L_tale) := ⟨rfl, rfl, rfl, by decide +kernel, rfl, by decide +kernel, by decide +kernel⟩
theorem ok_L_tale {f : Addr} {fd : FuncData} (Fn : Fun K "_law_tale" "_law_tale" s_L_tale f fd) (m_min : mg "min" = none) (m_range : mg "range" = none) (C_L_cell_at : Callee P w K mg base 1 "_law_cell_at" 2 φ_L_cell_at) (C_L_mix : Callee P w K mg base 1 "_law_mix" 2 φ_L_mix) (C_L_signs : Callee P w K mg base 2 "_law_signs" 3 φ_L_signs) : FnOk P w K mg base CX0 3 f fd ps_L_tale (spV0 K φ_L_tale 2) :=
  fn_ok (N := N_L_tale) (ps := ps_L_tale) (k := 2) (g := g_L_tale) Fn sc_L_tale (fun cdv A outer s H E F0 hr => let hu := room_u hr; (vs_cons (vs_set 2 sc_L_tale.nd (v_mod (v_fn C_L_cell_at (hr.mono (by decide)) (va_cons (v_var 0) (va_cons v_int va_nil))) v_int))
    (vs_cons (vs_if (vt_cmp (c_eq hu) (v_mod (v_fdiv (v_fn C_L_mix (hr.mono (by decide)) (va_cons (v_fn C_L_cell_at (hr.mono (by decide)) (va_cons (v_var 0) (va_cons v_int va_nil))) (va_cons v_int va_nil))) v_int) v_int) v_int) (vs_one (vs_set 2 sc_L_tale.nd (v_mod (v_fn C_L_cell_at (hr.mono (by decide)) (va_cons (v_var 0) (va_cons v_int va_nil))) v_int))) vs_nil)
    (vs_cons (vs_set 3 sc_L_tale.nd (v_lst va_nil))
    (vs_cons (vs_set 4 sc_L_tale.nd v_int)
    (vs_cons (vs_for .never rfl (vi_list (v_idx hu (v_var 1) v_int)) (vg_tup rfl (vg_cons (vg_name 5 sc_L_tale.nd) (vg_cons (vg_name 6 sc_L_tale.nd) (vg_cons (vg_name 7 sc_L_tale.nd) vg_nil))))
    (vs_one (vs_for .never rfl (vi_rngW m_range (va_cons (v_var 2) va_nil)) (vg_name 8 sc_L_tale.nd)
    (vs_cons (vs_set 4 sc_L_tale.nd (v_add (v_var 4) v_int))
    (vs_cons (vs_set 9 sc_L_tale.nd (v_fn C_L_mix (hr.mono (by decide)) (va_cons (v_fn C_L_cell_at (hr.mono (by decide)) (va_cons (v_var 0) (va_cons (v_add v_int (v_mod (v_var 4) v_int)) va_nil))) (va_cons (v_var 4) va_nil))))
    (vs_cons (vs_set 10 sc_L_tale.nd (v_add (v_add (v_var 8) v_int) (v_mod (v_fdiv (v_var 9) v_int) v_int)))
    (vs_cons (vs_if (vt_w (vw_and (vt_cmp c_isN (v_var 7) v_non) (vw_and1 (vt_cmp (c_eq hu) (v_mod (v_var 9) v_int) v_int)))) (vs_one vs_continue) vs_nil)
    (vs_cons (vs_if (vt_cmp c_notN (v_var 7) v_non) (vs_one (vs_set 10 sc_L_tale.nd (v_add (v_add (v_var 8) v_int) (v_mod (v_fdiv (v_var 9) v_int) (v_min2 rfl m_min (va_cons (v_var 7) (va_cons v_int va_nil))))))) vs_nil)
    (vs_cons (vs_if (vt_w (vw_and (vt_cmp c_notN (v_var 7) v_non) (vw_and1 (vt_cmp (c_eq hu) (v_mod (v_var 9) v_int) v_int)))) (vs_one (vs_set 10 sc_L_tale.nd (v_add (v_var 8) (v_var 7)))) vs_nil)
    (vs_one (vs_if (vt_cmp c_le (v_var 10) (v_var 2)) (vs_frz 10 (vs_one (vs_app 3 (v_tup (va_cons (v_var 5) (va_cons (v_var 6) (va_cons (v_var 8) (va_cons (v_var 10) va_nil)))))))) vs_nil)))))))))))
    (vs_cons (vs_if (vt_cmp (c_eq hu) (v_mod (v_var 2) v_int) v_int) (vs_one (vs_set 3 sc_L_tale.nd (v_step (v_var 3) (v_neg v_int)))) vs_nil)
    (vs_frz 3 (vs_one (vs_ret (v_tup (va_cons (v_var 2) (va_cons (v_var 3) (va_cons (v_fn C_L_signs (hr.mono (by decide)) (va_cons (v_var 0) (va_cons (v_var 1) (va_cons (v_var 2) va_nil)))) va_nil))))))))))))))
theorem sc_L_turned : FnScope N_L_turned ps_L_turned (defScope s_L_turned) := ⟨rfl, rfl, rfl, by decide +kernel, rfl, by decide +kernel, by decide +kernel⟩
theorem ok_L_turned {f : Addr} {fd : FuncData} (Fn : Fun K "_law_turned" "_law_turned" s_L_turned f fd) (m_len : mg "len" = none) (C_L_ends : Callee P w K mg base 1 "_law_ends" 3 φ_L_ends) (C_L_seen : Callee P w K mg base 2 "_law_seen" 3 φ_L_seen) : FnOk P w K mg base CX0 3 f fd ps_L_turned (spV0 K φ_L_turned 4) :=
  fn_ok (N := N_L_turned) (ps := ps_L_turned) (k := 2) (g := g_L_turned) Fn sc_L_turned (fun cdv A outer s H E F0 hr => let hu := room_u hr; (vs_cons (vs_set 4 sc_L_turned.nd (v_fn C_L_seen (hr.mono (by decide)) (va_cons (v_var 1) (va_cons (v_var 2) (va_cons (v_var 3) va_nil)))))
    (vs_cons (vs_asg (v_var 2) (vg_tup rfl (vg_cons (vg_name 5 sc_L_turned.nd) (vg_cons (vg_name 6 sc_L_turned.nd) (vg_cons (vg_name 7 sc_L_turned.nd) vg_nil)))))
    (vs_cons (vs_set 8 sc_L_turned.nd (v_fn C_L_ends (hr.mono (by decide)) (va_cons (v_var 1) (va_cons (v_var 2) (va_cons (v_var 3) va_nil)))))
    (vs_cons (vs_set 9 sc_L_turned.nd (v_mod (v_fdiv (v_var 0) v_int) (v_idx hu (v_var 1) v_int)))
    (vs_cons (vs_if (vt_w (vw_and (vt_cmp (c_eq hu) (v_mod (v_var 0) v_int) v_int) (vw_and1 (vt_cmp (c_ne hu) (v_idx hu (v_var 4) v_int) (v_lst va_nil))))) (vs_cons (vs_set 10 sc_L_turned.nd (v_idx hu (v_idx hu (v_var 4) v_int) (v_mod (v_fdiv (v_var 0) v_int) (v_len m_len (va_cons (v_idx hu (v_var 4) v_int) va_nil)))))
    (vs_frz 6 (vs_one (vs_comp 6 (osc := defScope s_L_turned) (N := N_L_turned) ["_law_run", "_law_one"] ([some 10, none] : List (Option Nat)) [1] rfl rfl sc_L_turned.nd ⟨rfl, by decide +kernel, by decide +kernel, by decide +kernel, rfl, by decide +kernel⟩ rfl (vi_list (v_var 6)) (bo_name 1) (fun _ _ _ _ => ⟨(vg_name 1 (show (["_law_run", "_law_one"] : List Str).Nodup by decide +kernel)), (vf_one (vt_cmp (c_ne hu) (v_var 1) (v_var 0))), (v_var 1)⟩))))) vs_nil)
    (vs_cons (vs_if (vt_w (vw_and (vt_cmp (c_eq hu) (v_mod (v_var 0) v_int) v_int) (vw_and1 (vt_cmp (c_ne hu) (v_idx hu (v_var 4) v_int) (v_lst va_nil))))) (vs_cons (vs_set 10 sc_L_turned.nd (v_idx hu (v_idx hu (v_var 4) v_int) (v_mod (v_fdiv (v_var 0) v_int) (v_len m_len (va_cons (v_idx hu (v_var 4) v_int) va_nil)))))
    (vs_cons (vs_set 11 sc_L_turned.nd (v_idx hu (v_lst (va_cons v_int (va_cons (v_neg v_int) va_nil))) (v_mod (v_fdiv (v_var 0) v_int) v_int)))
    (vs_frz 6 (vs_one (vs_set 6 sc_L_turned.nd (v_add (v_comp (osc := defScope s_L_turned) (N := N_L_turned) ["_law_run", "_law_one"] ([some 10, none] : List (Option Nat)) [1] rfl rfl ⟨rfl, by decide +kernel, by decide +kernel, by decide +kernel, rfl, by decide +kernel⟩ rfl (vi_list (v_var 6)) (bo_name 1) (fun _ _ _ _ => ⟨(vg_name 1 (show (["_law_run", "_law_one"] : List Str).Nodup by decide +kernel)), (vf_one (vt_cmp (c_ne hu) (v_var 1) (v_var 0))), (v_var 1)⟩)) (v_lst (va_cons (v_tup (va_cons (v_idx hu (v_var 10) v_int) (va_cons (v_idx hu (v_var 10) v_int) (va_cons (v_idx hu (v_var 10) v_int) (va_cons (v_add (v_idx hu (v_var 10) v_int) (v_var 11)) va_nil))))) va_nil)))))))) vs_nil)
    (vs_cons (vs_if (vt_w (vw_and (vt_cmp (c_eq hu) (v_mod (v_var 0) v_int) v_int) (vw_and1 (vt_cmp (c_ne hu) (v_idx hu (v_var 4) v_int) (v_lst va_nil))))) (vs_frz 7 (vs_frz 4 (vs_one (vs_comp 7 (osc := defScope s_L_turned) (N := N_L_turned) ["_law_view", "_law_number", "_law_one"] ([some 4, some 0, none] : List (Option Nat)) [2] rfl rfl sc_L_turned.nd ⟨rfl, by decide +kernel, by decide +kernel, by decide +kernel, rfl, by decide +kernel⟩ rfl (vi_list (v_var 7)) (bo_name 2) (fun _ _ _ _ => ⟨(vg_name 2 (show (["_law_view", "_law_number", "_law_one"] : List Str).Nodup by decide +kernel)), (vf_one (vt_cmp (c_ne hu) (v_var 2) (v_idx hu (v_idx hu (v_var 0) v_int) (v_mod (v_fdiv (v_var 1) v_int) (v_len m_len (va_cons (v_idx hu (v_var 0) v_int) va_nil)))))), (v_var 2)⟩))))) vs_nil)
    (vs_cons (vs_if (vt_w (vw_and (vt_cmp (c_eq hu) (v_mod (v_var 0) v_int) v_int) (vw_and1 (vt_cmp (c_ne hu) (v_idx hu (v_var 4) v_int) (v_lst va_nil))))) (vs_cons (vs_set 12 sc_L_turned.nd (v_idx hu (v_idx hu (v_var 4) v_int) (v_mod (v_fdiv (v_var 0) v_int) (v_len m_len (va_cons (v_idx hu (v_var 4) v_int) va_nil)))))
    (vs_frz 7 (vs_one (vs_set 7 sc_L_turned.nd (v_add (v_comp (osc := defScope s_L_turned) (N := N_L_turned) ["_law_sign", "_law_one"] ([some 12, none] : List (Option Nat)) [1] rfl rfl ⟨rfl, by decide +kernel, by decide +kernel, by decide +kernel, rfl, by decide +kernel⟩ rfl (vi_list (v_var 7)) (bo_name 1) (fun _ _ _ _ => ⟨(vg_name 1 (show (["_law_sign", "_law_one"] : List Str).Nodup by decide +kernel)), (vf_one (vt_cmp (c_ne hu) (v_var 1) (v_var 0))), (v_var 1)⟩)) (v_lst (va_cons (v_tup (va_cons (v_idx hu (v_var 12) v_int) (va_cons (v_idx hu (v_var 12) v_int) (va_cons (v_add v_str (v_slS (v_idx hu (v_var 12) v_int) v_int)) va_nil)))) va_nil))))))) vs_nil)
    (vs_cons (vs_if (vt_w (vw_and (vt_cmp (c_eq hu) (v_mod (v_var 0) v_int) v_int) (vw_and1 (vt_cmp c_ge (v_idx hu (v_var 8) (v_var 9)) v_int)))) (vs_one (vs_set 7 sc_L_turned.nd (v_add (v_var 7) (v_lst (va_cons (v_tup (va_cons (v_var 9) (va_cons (v_idx hu (v_var 8) (v_var 9)) (va_cons v_str va_nil)))) va_nil))))) vs_nil)
    (vs_cons (vs_if (vt_w (vw_and (vt_cmp (c_eq hu) (v_mod (v_var 0) v_int) v_int) (vw_and1 (vt_cmp c_lt (v_idx hu (v_var 8) (v_var 9)) (v_var 5))))) (vs_one (vs_set 7 sc_L_turned.nd (v_add (v_var 7) (v_lst (va_cons (v_tup (va_cons (v_var 9) (va_cons (v_add (v_idx hu (v_var 8) (v_var 9)) v_int) (va_cons v_str va_nil)))) va_nil))))) vs_nil)
    (vs_frz 7 (vs_frz 6 (vs_one (vs_ret (v_tup (va_cons (v_var 5) (va_cons (v_var 6) (va_cons (v_var 7) va_nil)))))))))))))))))))
theorem sc_P_come_of : FnScope N_P_come_of ps_P_come_of (defScope s_P_come_of) := ⟨rfl, rfl, rfl, by decide +kernel, rfl, by decide +kernel, by decide +kernel⟩
theorem ok_P_come_of {f : Addr} {fd : FuncData} (Fn : Fun K "come_of" "come_of" s_P_come_of f fd) : FnOk P w K mg base CX0 1 f fd ps_P_come_of (spV0 K φ_P_come_of 1) :=
  fn_ok (N := N_P_come_of) (ps := ps_P_come_of) (k := 0) (g := g_P_come_of) Fn sc_P_come_of (fun cdv A outer s H E F0 hr => let hu := room_u hr; (vs_one (vs_ret (v_idx hu (v_var 0) v_int))))
theorem sc_P_walk_back : FnScope N_P_walk_back ps_P_walk_back (defScope s_P_walk_back) := ⟨rfl, rfl, rfl, by decide +kernel, rfl, by decide +kernel, by decide +kernel⟩
theorem ok_P_walk_back {f : Addr} {fd : FuncData} (Fn : Fun K "walk_back" "walk_back" s_P_walk_back f fd) (m_sorted : mg "sorted" = none) (C_P_come_of : Callee P w K mg base 1 "come_of" 1 φ_P_come_of) : FnOk P w K mg base CX0 3 f fd ps_P_walk_back (spV0 K φ_P_walk_back 3) :=
  fn_ok (N := N_P_walk_back) (ps := ps_P_walk_back) (k := 2) (g := g_P_walk_back) Fn sc_P_walk_back (fun cdv A outer s H E F0 hr => let hu := room_u hr; (vs_cons (vs_set 3 sc_P_walk_back.nd (v_mul (v_lst (va_cons (v_tup (va_cons (v_neg v_int) (va_cons v_non va_nil))) va_nil)) (v_idx hu (v_var 0) v_int)))
    (vs_cons (vs_setit hu 3 (v_tup (va_cons (v_idx hu (v_var 2) v_int) (va_cons v_non va_nil))) (v_idx hu (v_var 2) v_int))
    (vs_cons (vs_for .never rfl (vi_list (v_sortK C_P_come_of (hr.mono (by decide)) m_sorted (v_idx hu (v_var 1) v_int))) (vg_tup rfl (vg_cons (vg_name 4 sc_P_walk_back.nd) (vg_cons (vg_name 5 sc_P_walk_back.nd) (vg_cons (vg_name 6 sc_P_walk_back.nd) (vg_cons (vg_name 7 sc_P_walk_back.nd) vg_nil)))))
    (vs_one (vs_if (vt_w (vw_and (vt_cmp c_le (v_var 7) (v_idx hu (v_idx hu (v_var 3) (v_var 5)) v_int)) (vw_and1 (vt_cmp c_gt (v_var 6) (v_idx hu (v_idx hu (v_var 3) (v_var 4)) v_int))))) (vs_one (vs_setit hu 3 (v_tup (va_cons (v_var 6) (va_cons (v_tup (va_cons (v_var 4) (va_cons (v_var 5) (va_cons (v_var 6) (va_cons (v_var 7) va_nil))))) va_nil))) (v_var 4))) vs_nil)))
    (vs_one (vs_retv 3))))))
theorem sc_P_heard_by : FnScope N_P_heard_by ps_P_heard_by (defScope s_P_heard_by) := ⟨rfl, rfl, rfl, by decide +kernel, rfl, by decide +kernel, by decide +kernel⟩
theorem ok_P_heard_by {f : Addr} {fd : FuncData} (Fn : Fun K "heard_by" "heard_by" s_P_heard_by f fd) (C_P_walk_back : Callee P w K mg base 3 "walk_back" 3 φ_P_walk_back) : FnOk P w K mg base CX0 4 f fd ps_P_heard_by (spV0 K φ_P_heard_by 3) :=
  fn_ok (N := N_P_heard_by) (ps := ps_P_heard_by) (k := 3) (g := g_P_heard_by) Fn sc_P_heard_by (fun cdv A outer s H E F0 hr => let hu := room_u hr; (vs_one (vs_ret (v_comp (osc := defScope s_P_heard_by) (N := N_P_heard_by) ["best"] ([none] : List (Option Nat)) [0] rfl rfl ⟨rfl, by decide +kernel, by decide +kernel, by decide +kernel, rfl, by decide +kernel⟩ rfl (vi_list (v_fn C_P_walk_back (hr.mono (by decide)) (va_cons (v_var 0) (va_cons (v_var 1) (va_cons (v_var 2) va_nil))))) (bo_name 0) (fun _ _ _ _ => ⟨(vg_name 0 (show (["best"] : List Str).Nodup by decide +kernel)), vf_nil, (v_idx hu (v_var 0) v_int)⟩)))))
theorem sc_P_seen : FnScope N_P_seen ps_P_seen (defScope s_P_seen) := ⟨rfl, rfl, rfl, by decide +kernel, rfl, by decide +kernel, by decide +kernel⟩
theorem ok_P_seen {f : Addr} {fd : FuncData} (Fn : Fun K "seen" "seen" s_P_seen f fd) (m_sorted : mg "sorted" = none) (C_P_heard_by : Callee P w K mg base 4 "heard_by" 3 φ_P_heard_by) : FnOk P w K mg base CX0 5 f fd ps_P_seen (spV0 K φ_P_seen 3) :=
  fn_ok (N := N_P_seen) (ps := ps_P_seen) (k := 4) (g := g_P_seen) Fn sc_P_seen (fun cdv A outer s H E F0 hr => let hu := room_u hr; (vs_cons (vs_set 3 sc_P_seen.nd (v_fn C_P_heard_by (hr.mono (by decide)) (va_cons (v_var 0) (va_cons (v_var 1) (va_cons (v_var 2) va_nil)))))
    (vs_frz 3 (vs_cons (vs_comp 4 (osc := defScope s_P_seen) (N := N_P_seen) ["heard", "run"] ([some 3, none] : List (Option Nat)) [1] rfl rfl sc_P_seen.nd ⟨rfl, by decide +kernel, by decide +kernel, by decide +kernel, rfl, by decide +kernel⟩ rfl (vi_list (v_idx hu (v_var 1) v_int)) (bo_name 1) (fun _ _ _ _ => ⟨(vg_name 1 (show (["heard", "run"] : List Str).Nodup by decide +kernel)), (vf_one (vt_cmp c_le (v_idx hu (v_var 1) v_int) (v_idx hu (v_var 0) (v_idx hu (v_var 1) v_int)))), (v_var 1)⟩))
    (vs_frz 3 (vs_cons (vs_comp 5 (osc := defScope s_P_seen) (N := N_P_seen) ["heard", "sign"] ([some 3, none] : List (Option Nat)) [1] rfl rfl sc_P_seen.nd ⟨rfl, by decide +kernel, by decide +kernel, by decide +kernel, rfl, by decide +kernel⟩ rfl (vi_list (v_idx hu (v_var 1) v_int)) (bo_name 1) (fun _ _ _ _ => ⟨(vg_name 1 (show (["heard", "sign"] : List Str).Nodup by decide +kernel)), (vf_one (vt_cmp c_le (v_idx hu (v_var 1) v_int) (v_idx hu (v_var 0) (v_idx hu (v_var 1) v_int)))), (v_var 1)⟩))
    (vs_one (vs_ret (v_tup (va_cons (v_var 2) (va_cons (v_sortT m_sorted (v_var 4)) (va_cons (v_sortT m_sorted (v_var 5)) va_nil))))))))))))
theorem sc_P_alike : FnScope N_P_alike ps_P_alike (defScope s_P_alike) := ⟨rfl, rfl, rfl, by decide +kernel, rfl, by decide +kernel, by decide +kernel⟩
theorem ok_P_alike {f : Addr} {fd : FuncData} (Fn : Fun K "alike" "alike" s_P_alike f fd) (C_P_seen : Callee P w K mg base 5 "seen" 3 φ_P_seen) : FnOk P w K mg base CX0 6 f fd ps_P_alike (spV0 K φ_P_alike 4) :=
  fn_ok (N := N_P_alike) (ps := ps_P_alike) (k := 5) (g := g_P_alike) Fn sc_P_alike (fun cdv A outer s H E F0 hr => let hu := room_u hr; (vs_one (vs_ret (v_cmp (c_eq hu) (v_fn C_P_seen (hr.mono (by decide)) (va_cons (v_var 0) (va_cons (v_var 1) (va_cons (v_var 3) va_nil)))) (v_fn C_P_seen (hr.mono (by decide)) (va_cons (v_var 0) (va_cons (v_var 2) (va_cons (v_var 3) va_nil))))))))
theorem sc_law : FnScope N_law ps_law (defScope s_law) := ⟨rfl, rfl, rfl, by decide +kernel, rfl, by decide +kernel, by decide +kernel⟩
theorem ok_law {f : Addr} {fd : FuncData} (Fn : Fun K "law" "law" s_law f fd) (m_bool : mg "bool" = none) (m_isinstance : mg "isinstance" = none) (m_list : mg "list" = none) (C_L_cell_at : Callee P w K mg base 1 "_law_cell_at" 2 φ_L_cell_at) (C_L_good : Callee P w K mg base 1 "_law_good" 2 φ_L_good) (C_L_mix : Callee P w K mg base 1 "_law_mix" 2 φ_L_mix) (C_L_net : Callee P w K mg base 2 "_law_net" 1 φ_L_net) (C_L_other : Callee P w K mg base 2 "_law_other" 5 φ_L_other) (C_L_seen : Callee P w K mg base 2 "_law_seen" 3 φ_L_seen) (C_L_tale : Callee P w K mg base 3 "_law_tale" 2 φ_L_tale) (C_L_turned : Callee P w K mg base 3 "_law_turned" 4 φ_L_turned) (C_P_alike : Callee P w K mg base 6 "alike" 4 φ_P_alike) : FnOk P w K mg base CX0 7 f fd ps_law (spV0 K φ_law 1) :=
  fn_ok (N := N_law) (ps := ps_law) (k := 6) (g := g_law) Fn sc_law (fun cdv A outer s H E F0 hr => let hu := room_u hr; (vs_cons (vs_set 1 sc_law.nd (v_fn C_L_net (hr.mono (by decide)) (va_cons (v_var 0) va_nil)))
    (vs_frz 1 (vs_cons (vs_set 2 sc_law.nd (v_fn C_L_tale (hr.mono (by decide)) (va_cons (v_var 0) (va_cons (v_var 1) va_nil))))
    (vs_cons (vs_set 3 sc_law.nd (v_fn C_L_mix (hr.mono (by decide)) (va_cons (v_fn C_L_cell_at (hr.mono (by decide)) (va_cons (v_var 0) (va_cons v_int va_nil))) (va_cons v_int va_nil))))
    (vs_cons (vs_set 4 sc_law.nd (v_tup (va_cons (v_mod (v_var 3) (v_idx hu (v_var 1) v_int)) (va_cons (v_mod (v_fdiv (v_var 3) v_int) (v_add (v_idx hu (v_var 2) v_int) v_int)) va_nil))))
    (vs_frz 2 (vs_frz 1 (vs_cons (vs_set 5 sc_law.nd (v_fn C_L_other (hr.mono (by decide)) (va_cons (v_var 0) (va_cons (v_var 1) (va_cons (v_var 2) (va_cons (v_var 4) (va_cons v_int va_nil)))))))
    (vs_cons (vs_if (vt_cmp c_gt (v_mod (v_fdiv (v_var 3) v_int) v_int) v_int) (vs_frz 5 (vs_frz 1 (vs_one (vs_set 5 sc_law.nd (v_fn C_L_turned (hr.mono (by decide)) (va_cons (v_fn C_L_mix (hr.mono (by decide)) (va_cons (v_fn C_L_cell_at (hr.mono (by decide)) (va_cons (v_var 0) (va_cons v_int va_nil))) (va_cons v_int va_nil))) (va_cons (v_var 1) (va_cons (v_var 5) (va_cons (v_var 4) va_nil))))))))) vs_nil)
    (vs_cons (vs_if (vt_not (vt_val (v_fn C_L_good (hr.mono (by decide)) (va_cons (v_var 1) (va_cons (v_var 5) va_nil))))) (vs_frz 2 (vs_one (vs_set 5 sc_law.nd (v_var 2)))) vs_nil)
    (vs_cons (vs_if (vt_w (vw_and (vt_cmp (c_eq hu) (v_mod (v_fdiv (v_var 3) v_int) v_int) v_int) (vw_and1 (vt_val (v_fn C_L_good (hr.mono (by decide)) (va_cons (v_var 1) (va_cons (v_tup (va_cons (v_add (v_idx hu (v_var 2) v_int) v_int) (va_cons (v_idx hu (v_var 5) v_int) (va_cons (v_idx hu (v_var 5) v_int) va_nil)))) va_nil))))))) (vs_one (vs_set 5 sc_law.nd (v_tup (va_cons (v_add (v_idx hu (v_var 2) v_int) v_int) (va_cons (v_idx hu (v_var 5) v_int) (va_cons (v_idx hu (v_var 5) v_int) va_nil)))))) vs_nil)
    (vs_frz 5 (vs_frz 2 (vs_frz 1 (vs_cons (vs_set 6 sc_law.nd (v_cmp (c_eq hu) (v_fn C_L_seen (hr.mono (by decide)) (va_cons (v_var 1) (va_cons (v_var 2) (va_cons (v_var 4) va_nil)))) (v_fn C_L_seen (hr.mono (by decide)) (va_cons (v_var 1) (va_cons (v_var 5) (va_cons (v_var 4) va_nil))))))
    (vs_cons (vs_set 7 sc_law.nd (v_lst (va_cons (v_tup (va_cons (v_idx hu (v_var 2) v_int) (va_cons (v_list m_list (va_cons (v_idx hu (v_var 2) v_int) va_nil)) (va_cons (v_list m_list (va_cons (v_idx hu (v_var 2) v_int) va_nil)) va_nil)))) (va_cons (v_tup (va_cons (v_idx hu (v_var 5) v_int) (va_cons (v_list m_list (va_cons (v_idx hu (v_var 5) v_int) va_nil)) (va_cons (v_list m_list (va_cons (v_idx hu (v_var 5) v_int) va_nil)) va_nil)))) va_nil))))
    (vs_cons (vs_for .never rfl (vi_list (v_lst (va_cons (v_tup (va_cons (v_idx hu (v_var 7) v_int) (va_cons (v_idx hu (v_var 7) v_int) va_nil))) (va_cons (v_tup (va_cons (v_idx hu (v_var 7) v_int) (va_cons (v_idx hu (v_var 7) v_int) va_nil))) va_nil)))) (vg_tup rfl (vg_cons (vg_name 8 sc_law.nd) (vg_cons (vg_name 9 sc_law.nd) vg_nil)))
    (vs_cons (vs_set 10 sc_law.nd (v_fn C_P_alike (hr.mono (by decide)) (va_cons (v_var 1) (va_cons (v_var 8) (va_cons (v_var 9) (va_cons (v_var 4) va_nil))))))
    (vs_one (vs_if (vt_w (vw_or (vt_not (vt_val (v_isi m_isinstance (va_cons (v_var 10) (va_cons (v_ty m_bool) va_nil))))) (vw_or1 (vt_cmp (c_ne hu) (v_var 10) (v_var 6))))) (vs_one (vs_ret v_bl)) vs_nil))))
    (vs_frz 5 (vs_frz 2 (vs_one (vs_ret (v_cmp (c_eq hu) (v_var 7) (v_lst (va_cons (v_var 2) (va_cons (v_var 5) va_nil))))))))))))))))))))))))))
end
noncomputable def cellF (ns : List Int) (i : Nat) : Int := (ns[i]?).getD 0
theorem cell_ok {ns : List Int} {i : Nat} : φ_L_cell_at [.scr (ns.map D.int), .int i] = .ok .fz (.int (cellF ns i)) := by
  unfold cellF
  cases q : ns[i]? with
  | some x =>
    have hi : i < ns.length := (List.getElem?_eq_some_iff.mp q).1
    have := atI_of (xs := ns.map D.int) (i := i) (d := .int x) (by simp [q])
    simp [φ_L_cell_at, runF_eq, ev0, g_L_cell_at, hi, this]
  | none =>
    have hi : ¬ ((i : Int) < ns.length) := by have := List.getElem?_eq_none_iff.mp q; omega
    simp [φ_L_cell_at, runF_eq, ev0, g_L_cell_at, hi]
theorem cell_ok0 {ns : List Int} : φ_L_cell_at [.scr (ns.map D.int), .int 0] = .ok .fz (.int (cellF ns 0)) := cell_ok (i := 0)
theorem cell_ok1 {ns : List Int} : φ_L_cell_at [.scr (ns.map D.int), .int 1] = .ok .fz (.int (cellF ns 1)) := cell_ok (i := 1)
theorem cell_ok2 {ns : List Int} : φ_L_cell_at [.scr (ns.map D.int), .int 2] = .ok .fz (.int (cellF ns 2)) := cell_ok (i := 2)
theorem cell_okI {ns : List Int} {j : Int} {i : Nat} (h : j = i) : φ_L_cell_at [.scr (ns.map D.int), .int j] = .ok .fz (.int (cellF ns i)) := by rw [h]; exact cell_ok

noncomputable def mixF (c k : Int) : Int := match φ_L_mix [.int c, .int k] with
  | .ok _ (.int x) => x
  | _ => 0
theorem mix_ex (c k : Int) (h0 : 0 ≤ k) (h1 : k < 2 ^ 20) : ∃ x, φ_L_mix [.int c, .int k] = .ok .fz (.int x) ∧ 0 ≤ x ∧ x < 2 ^ 31 := by
  have k2 : k * k < 2 ^ 40 := by
    have := Int.mul_le_mul (show k ≤ 2 ^ 20 - 1 by omega) (show k ≤ 2 ^ 20 - 1 by omega) h0 (by decide)
    omega
  have k0 : 0 ≤ k * k := Int.mul_nonneg h0 h0
  have e1 : mulD (.int k) (.int k) = some (.fz, .int (k * k)) := mulD_ok (by omega)
  have e2 : mulD (.int (k * k)) (.int 7919) = some (.fz, .int (k * k * 7919)) := mulD_ok (by omega)
  have e3 : mulD (.int (c % 1000003 + k * k * 7919 + k)) (.int 48271) = some (.fz, .int ((c % 1000003 + k * k * 7919 + k) * 48271)) := mulD_ok (by omega)
  generalize hn : (c % 1000003 + k * k * 7919 + k) * 48271 % 2147483629 = n
  have n0 : 0 ≤ n ∧ n < 2147483629 := by omega
  have e4 : mulD (.int n) (.int n) = some (.fz, .int (n * n)) := mulD_ok (by omega)
  generalize hp : n * n % 2147483587 = p
  have p0 : 0 ≤ p ∧ p < 2147483587 := by omega
  refine ⟨p / 7, ?_, by omega, by omega⟩
  simp [φ_L_mix, runF_eq, ev0, g_L_mix, e1, e2, e3, hn, e4, hp]
theorem mix_ok (c k : Int) (h0 : 0 ≤ k) (h1 : k < 2 ^ 20) : φ_L_mix [.int c, .int k] = .ok .fz (.int (mixF c k)) := by
  obtain ⟨x, e, _⟩ := mix_ex c k h0 h1
  unfold mixF; rw [e]
theorem mix_nn (c k : Int) (h0 : 0 ≤ k) (h1 : k < 2 ^ 20) : 0 ≤ mixF c k ∧ mixF c k < 2 ^ 31 := by
  obtain ⟨x, e, h⟩ := mix_ex c k h0 h1
  unfold mixF; rw [e]; exact h

noncomputable abbrev Path := Nat × Nat × Option Int
noncomputable def optD : Option Int → D
  | none => .non
  | some m => .int m
noncomputable def pathD (p : Path) : D := .tup [.int p.1, .int p.2.1, optD p.2.2]
noncomputable def ends (p : Path) : Nat × Nat := (p.1, p.2.1)
structure NetOk (n : Nat) (ps : List Path) : Prop where
  n1 : 1 ≤ n
  n8 : n ≤ 8
  s : ∀ p ∈ ps, p.1 < n
  g : ∀ p ∈ ps, p.2.1 < n
  ne : ∀ p ∈ ps, p.1 ≠ p.2.1
  m : ∀ p ∈ ps, ∀ m, p.2.2 = some m → 1 ≤ m ∧ m ≤ 10 ^ 60
  nd : (ps.map ends).Nodup
theorem emod_nat (a : Int) {n : Nat} (h : 0 < n) : ∃ s : Nat, a % (n : Int) = s ∧ s < n := by
  have h1 := Int.emod_nonneg a (b := n) (by omega)
  have h2 := Int.emod_lt_of_pos a (b := n) (by omega)
  exact ⟨(a % n).toNat, by omega, by omega⟩
theorem NetOk.add {n : Nat} {ps : List Path} (h : NetOk n ps) {s g : Nat} {o : Option Int} (hs : s < n) (hg : g < n) (hne : s ≠ g) (hm : ∀ m, o = some m → 1 ≤ m ∧ m ≤ 10 ^ 60) (hn : (s, g) ∉ ps.map ends) : NetOk n (ps ++ [(s, g, o)]) := by
  have spl : ∀ {P : Path → Prop}, (∀ p ∈ ps, P p) → P (s, g, o) → ∀ p ∈ ps ++ [(s, g, o)], P p := fun h1 h2 p hp => by
    rcases List.mem_append.1 hp with hp | hp
    · exact h1 p hp
    · simp at hp; subst hp; exact h2
  refine ⟨h.n1, h.n8, spl h.s hs, spl h.g hg, spl h.ne hne, spl h.m hm, ?_⟩
  rw [List.map_append, List.nodup_append]
  refine ⟨h.nd, by simp, fun x hx y hy => ?_⟩
  simp [ends] at hy
  subst hy
  rintro rfl
  exact hn hx
theorem NetOk.reverse {n : Nat} {ps : List Path} (h : NetOk n ps) : NetOk n ps.reverse :=
  ⟨h.n1, h.n8, fun p hp => h.s p (by simpa using hp), fun p hp => h.g p (by simpa using hp), fun p hp => h.ne p (by simpa using hp), fun p hp => h.m p (by simpa using hp), by rw [List.map_reverse]; exact (List.reverse_perm _).nodup_iff.2 h.nd⟩

noncomputable def netD (n : Nat) (ps : List Path) : D := .tup [.int n, .lst (ps.map pathD)]
theorem pick5 (i a b : Int) (h0 : 0 ≤ i) (h1 : i < 5) (ha : 1 ≤ a ∧ a ≤ 10 ^ 60) (hb : 1 ≤ b ∧ b ≤ 10 ^ 60) : ∃ o : Option Int, (∀ m, o = some m → 1 ≤ m ∧ m ≤ 10 ^ 60) ∧ atI [.non, .int 1, .int 2, .int a, .int b] i = some (optD o) := by
  have : i = 0 ∨ i = 1 ∨ i = 2 ∨ i = 3 ∨ i = 4 := by (clear hb ha; omega)
  rcases this with rfl | rfl | rfl | rfl | rfl
  · exact ⟨none, by simp, by simp [optD]⟩
  · exact ⟨some 1, by rintro m ⟨⟩; decide, by simp [optD]⟩
  · exact ⟨some 2, by rintro m ⟨⟩; decide, by simp [optD]⟩
  · exact ⟨some a, by rintro m ⟨⟩; exact ha, by simp [optD]⟩
  · exact ⟨some b, by rintro m ⟨⟩; exact hb, by rw [show (4 : Int) = ((4 : Nat) : Int) from rfl]; exact atI_of rfl⟩
noncomputable abbrev evN (S : List D) (num : Int) (n : Nat) (ps : List Path) (l : Ev) : Ev := some (.fz, .scr S) :: some (.fz, .int num) :: some (.fz, .int n) :: some (.ow, .lst (ps.map pathD)) :: l
noncomputable def Below (s g : Nat) (ps : List Path) : Prop := ∀ p ∈ ps, p.1 < s ∨ (p.1 = s ∧ p.2.1 < g)
noncomputable def InvN1 (ns : List Int) (num : Int) (n s : Nat) (xs : List Nat) (ev : Ev) : Prop := ∃ ps x5 x6 x7 x8, ev = evN (ns.map D.int) num n ps [some (.fz, .int s), x5, x6, x7, x8] ∧ NetOk n ps ∧ ∃ g, xs = List.range' g (n - g) ∧ g ≤ n ∧ Below s g ps ∧ ps.length ≤ s * n + g
noncomputable def InvN2 (ns : List Int) (num : Int) (n : Nat) (xs : List Nat) (ev : Ev) : Prop := ∃ ps x4 x5 x6 x7 x8, ev = evN (ns.map D.int) num n ps [x4, x5, x6, x7, x8] ∧ NetOk n ps ∧ ∃ s, xs = List.range' s (n - s) ∧ s ≤ n ∧ Below s 0 ps ∧ ps.length ≤ s * n
theorem range_eq' (n : Nat) : List.range n = List.range' 0 (n - 0) := by rw [List.range_eq_range']; rfl
theorem range'_cons {s n x : Nat} {xs : List Nat} (h : x :: xs = List.range' s (n - s)) : x = s ∧ s < n ∧ xs = List.range' (s + 1) (n - (s + 1)) := by
  by_cases hs : s < n
  · rw [show n - s = (n - (s + 1)) + 1 by omega, List.range'_succ] at h
    cases h
    exact ⟨rfl, hs, rfl⟩
  · rw [show n - s = 0 by omega] at h; simp at h
theorem net_j1 {ns : List Int} {num dr : Int} {n s g : Nat} {xs : List Nat} {ps : List Path} {x7 x8 : Option (Kd × D)} {h : Ev → Fl} {Q : Fl → Prop} (ok : NetOk n ps) (hs : s < n) (hg : g < n) (hb : Below s g ps) (hl : ps.length ≤ s * n + g) (hx : xs = List.range' (g + 1) (n - (g + 1))) (hne : s ≠ g) (hd : 0 ≤ dr ∧ dr < 2 ^ 31) (h6 : dr % 6 ≠ 0) :
    Wp (g_L_net_j1 (evN (ns.map D.int) num n ps [some (.fz, .int s), some (.fz, .int g), some (.fz, .int dr), x7, x8])) (loopQ (InvN1 ns num n s xs) h Q) := by
  obtain ⟨o, ho, eo⟩ := pick5 (dr % 6 - 1) (1 + dr / 6 % 6) (10 ^ 50 + dr) (by (clear hd hne hl hg hs; omega)) (by (clear h6 hd hne hl hg hs; omega)) (by (clear h6 hd hne hl hg hs; omega)) (by (clear h6 hne hl hg hs; omega))
  simp at eo
  have n8 := ok.n8
  have hsn : s * n ≤ 7 * 8 := Nat.mul_le_mul (by (clear h6 hd hne hl hg; omega)) n8
  have hL : ps.length < LIM := by simp [LIM]; (clear h6 hd hne hs; omega)
  simp (disch := first | omega | rfl) [g_L_net_j1, eo, hL]
  have h1 : List.map pathD ps ++ [D.tup [.int s, .int g, optD o]] = (ps ++ [(s, g, o)]).map pathD := by simp [pathD]
  rw [h1]
  refine ⟨ps ++ [(s, g, o)], _, _, _, _, rfl, ok.add hs hg hne ho (fun z => ?_), g + 1, hx, by (clear hL hsn n8 h6 hd hne hl hs; omega), fun p hp => ?_, by simp; (clear hL hsn n8 h6 hd hne hg hs; omega)⟩
  · obtain ⟨p, hp, e⟩ := List.mem_map.1 z
    simp [ends] at e
    have := hb p hp
    (clear hL hsn n8 h6 hd hne hl hg hs; omega)
  · rcases List.mem_append.1 hp with hp | hp
    · have := hb p hp; (clear hL hsn n8 h6 hd hne hl hg hs; omega)
    · simp at hp; subst hp; simp
theorem net_b1 {ns : List Int} {num : Int} {n s g : Nat} {xs : List Nat} {ps : List Path} {x6 x7 x8 : Option (Kd × D)} {h : Ev → Fl} {Q : Fl → Prop} (ok : NetOk n ps) (hs : s < n) (hg : g < n) (hb : Below s g ps) (hl : ps.length ≤ s * n + g) (hx : xs = List.range' (g + 1) (n - (g + 1))) :
    Wp (g_L_net_b1 (evN (ns.map D.int) num n ps [some (.fz, .int s), some (.fz, .int g), x6, x7, x8])) (loopQ (InvN1 ns num n s xs) h Q) := by
  have hc := cell_ok1 (ns := ns)
  have n8 := ok.n8
  have hm := mix_ok (cellF ns 1) (10 * s + g) (by (clear n8 hl hg hs; omega)) (by (clear hl; omega))
  have hd := mix_nn (cellF ns 1) (10 * s + g) (by (clear n8 hl hg hs; omega)) (by (clear hl; omega))
  generalize mixF (cellF ns 1) (10 * s + g) = dr at *
  have skip : ∀ x6 x7 x8, InvN1 ns num n s xs (evN (ns.map D.int) num n ps [some (.fz, .int s), some (.fz, .int g), x6, x7, x8]) := fun x6 x7 x8 => ⟨ps, _, _, _, _, rfl, ok, g + 1, hx, by (clear hd n8 hl hs; omega), fun p hp => by have := hb p hp; (clear hd n8 hl hg hs; omega), by (clear hd n8 hg hs; omega)⟩
  simp (disch := first | omega | rfl) [g_L_net_b1, hc, hm]
  by_cases hne : s = g
  · subst hne
    refine wp_if ?_ ?_ <;> intro hq <;> simp (disch := first | omega | rfl) []
    · exact skip _ _ _
    · simp at hq
  · have hne' : ¬ ((s : Int) = g) := by (clear hd n8 hl hg hs; omega)
    refine wp_if ?_ ?_ <;> intro hq <;> simp (disch := first | omega | rfl) []
    · exact skip _ _ _
    · simp at hq
      exact net_j1 ok hs hg hb hl hx hne hd (by (clear hne' hne hd n8 hl hg hs; omega))
theorem net_ok (ns : List Int) : ∃ n ps, NetOk n ps ∧ ps.length ≤ 64 ∧ φ_L_net [.scr (ns.map D.int)] = .ok .fz (netD n ps) := by
  have hc := cell_ok0 (ns := ns)
  have hm := mix_ok (cellF ns 0) 1 (by decide) (by decide)
  have hnn := mix_nn (cellF ns 0) 1 (by decide) (by decide)
  refine run_el (φ_L_net [.scr (ns.map D.int)]) rfl ?_
  generalize mixF (cellF ns 0) 1 = num at *
  generalize cellF ns 0 = c0 at *
  have j4 : ∀ (n : Nat) (Q : Fl → Prop), 1 ≤ n → n ≤ 8 → Q = runQ (fun x => ∃ n ps, NetOk n ps ∧ ps.length ≤ 64 ∧ x = .ok .fz (netD n ps)) → Wp (g_L_net_j4 [some (.fz, .scr (ns.map D.int)), some (.fz, .int num), some (.fz, .int n), none, none, none, none, none, none]) Q := fun n Q n1 n8 hQ => by
    simp (disch := first | omega | rfl) [g_L_net_j4]
    rw [rangeD_eq, range_eq']
    refine wp_forM (InvN2 ns num n) ?_ ?_ ⟨[], none, none, none, none, none, rfl, ⟨n1, n8, by simp, by simp, by simp, by simp, by simp⟩, 0, rfl, by (clear n8 n1 hnn; omega), by simp [Below], by simp⟩
    · rintro s xs _ _ ⟨ps, x4, x5, x6, x7, x8, rfl, ok, s', hxs, hs', hb, hl⟩
      obtain ⟨rfl, hs, hx'⟩ := range'_cons hxs
      refine ⟨_, rfl, ?_⟩
      simp (disch := first | omega | rfl) [g_L_net_b2]
      rw [rangeD_eq, range_eq']
      refine wp_forM1 (InvN1 ns num n s) ?_ ?_ ⟨ps, _, _, _, _, rfl, ok, 0, rfl, by (clear hs hl hs' n8 n1 hnn; omega), hb, by (clear hs hs' n8 n1 hnn; omega)⟩
      · rintro g ys _ _ ⟨ps, x5, x6, x7, x8, rfl, ok, g', hys, hg', hb, hl⟩
        obtain ⟨rfl, hg, hy'⟩ := range'_cons hys
        refine ⟨_, rfl, ?_⟩
        simp only [Int.zero_add]
        exact net_b1 (x6 := x6) (x7 := x7) (x8 := x8) ok hs hg hb hl hy'
      · rintro _ ⟨ps, x5, x6, x7, x8, rfl, ok, g', hys, hg', hb, hl⟩
        have : g' = n := by
          have := congrArg List.length hys
          simp at this; (clear hl hs hs' n8 n1 hnn; omega)
        subst this
        refine ⟨ps, _, _, _, _, _, rfl, ok, s + 1, hx', by (clear hl hg' hs' n8 n1 hnn; omega), fun p hp => ?_, by rw [Nat.succ_mul]; (clear hg' hs hs' n8 n1 hnn; omega)⟩
        have h1 := hb p hp
        have h2 := ok.g p hp
        (clear h2 hl hg' hs hs' n8 n1 hnn; omega)
    · rintro _ ⟨ps, x4, x5, x6, x7, x8, rfl, ok, s', hxs, hs', hb, hl⟩
      have hlen : ps.length ≤ 64 := Nat.le_trans hl (by have := Nat.mul_le_mul (show s' ≤ 8 by (clear hl n1 hnn; omega)) n8; (clear hl hs' n8 n1 hnn; omega))
      simp (disch := first | omega | rfl) [g_L_net_j3]
      refine wp_if ?_ ?_ <;> intro hq <;> simp (disch := first | omega | rfl) [g_L_net_j2]
      · subst hQ
        simp (disch := first | omega | rfl) []
        refine ⟨n, ps.reverse, ok.reverse, by simpa using hlen, ?_⟩
        simp [netD]
      · subst hQ
        simp (disch := first | omega | rfl) []
        exact ⟨n, ps, ok, hlen, rfl⟩
  obtain ⟨a, ea, ha⟩ := emod_nat c0 (n := 4) (by decide)
  have ea : (1 : Int) + c0 % 4 = ((1 + a : Nat) : Int) := by rw [show c0 % 4 = (a : Int) from ea]; (clear ha ea hnn; omega)
  obtain ⟨b, eb, hb⟩ := emod_nat (num / 64) (n := 4) (by decide)
  have eb : (5 : Int) + num / 64 % 4 = ((5 + b : Nat) : Int) := by rw [show num / 64 % 4 = (b : Int) from eb]; (clear hb eb ea ha hnn; omega)
  simp (disch := first | omega | rfl) [ev0, g_L_net, hc, hm]
  rw [ea]
  refine wp_if ?_ ?_ <;> intro hq <;> simp (disch := first | omega | rfl) [g_L_net_j5]
  · rw [eb]
    refine wp_if ?_ ?_ <;> intro hq2 <;> simp (disch := first | omega | rfl) []
    · exact j4 2 _ (by (clear eb hb ea ha hnn; omega)) (by (clear eb hb ea ha hnn; omega)) rfl
    · exact j4 (5 + b) _ (by (clear eb hb ea ha hnn; omega)) (by (clear eb hb ea ha hnn; omega)) rfl
  · refine wp_if ?_ ?_ <;> intro hq2 <;> simp (disch := first | omega | rfl) []
    · exact j4 2 _ (by (clear eb hb ea ha hnn; omega)) (by (clear eb hb ea ha hnn; omega)) rfl
    · exact j4 (1 + a) _ (by (clear eb hb ea ha hnn; omega)) (by (clear eb hb ea ha hnn; omega)) rfl

noncomputable abbrev Run := Nat × Nat × Nat × Nat
noncomputable abbrev Sign := Nat × Nat × Str
noncomputable def runD (r : Run) : D := .tup [.int r.1, .int r.2.1, .int r.2.2.1, .int r.2.2.2]
noncomputable def signD (x : Sign) : D := .tup [.int x.1, .int x.2.1, .str x.2.2]
noncomputable def taleD (last : Nat) (rs : List Run) (ss : List Sign) : D := .tup [.int last, .lst (rs.map runD), .lst (ss.map signD)]
noncomputable def rkey (r : Run) : Nat × Nat × Nat := (r.1, r.2.1, r.2.2.1)
noncomputable def nmOk (x : Str) : Bool := PyData.strOk x && decide (x.length ≤ 12) && decide (x ≠ Str.ofString "more")
structure SignsOk (n last : Nat) (ss : List Sign) : Prop where
  h : ∀ x ∈ ss, x.1 < n
  t : ∀ x ∈ ss, x.2.1 ≤ last
  nm : ∀ x ∈ ss, nmOk x.2.2 = true
  nd : ss.Nodup
structure RunsOk (ps : List Path) (last : Nat) (rs : List Run) : Prop where
  path : ∀ r ∈ rs, ∃ o, (r.1, r.2.1, o) ∈ ps ∧ ∀ m, o = some m → (r.2.2.2 : Int) ≤ r.2.2.1 + m
  turn : ∀ r ∈ rs, r.2.2.1 < r.2.2.2 ∧ r.2.2.2 ≤ last
  nd : (rs.map rkey).Nodup
structure GoodT (n : Nat) (ps : List Path) (last : Nat) (rs : List Run) (ss : List Sign) : Prop where
  runs : RunsOk ps last rs
  due : ∀ s g m (l : Nat), (s, g, some m) ∈ ps → (l : Int) + m ≤ last → ∃ c, (s, g, l, c) ∈ rs
  signs : SignsOk n last ss
theorem signs_pl {n last : Nat} {ss : List Sign} (h : SignsOk n last ss) : plL 59 (ss.map signD) = true := plL_iff.2 fun d hd => by
  obtain ⟨x, hx, rfl⟩ := List.mem_map.1 hd
  have := h.nm x hx
  simp [nmOk] at this
  simp [signD, pl, plL, this.1.1]
theorem signD_inj {x y : Sign} : signD x = signD y ↔ x = y := by
  obtain ⟨a, b, c⟩ := x
  obtain ⟨a', b', c'⟩ := y
  simp [signD]
  constructor
  · rintro ⟨h1, h2, h3⟩; exact ⟨by (clear h2; omega), by (clear h1; omega), h3⟩
  · rintro ⟨h1, h2, h3⟩; exact ⟨by (clear h2; omega), by (clear h1; omega), h3⟩
theorem signD_mem {x : Sign} {ss : List Sign} : signD x ∈ ss.map signD ↔ x ∈ ss := by
  simp only [List.mem_map, signD_inj]
  exact ⟨fun ⟨a, h, e⟩ => e ▸ h, fun h => ⟨x, h, rfl⟩⟩
noncomputable def cA : Str := Str.ofString "a"
noncomputable def cB : Str := Str.ofString "b"
noncomputable def cC : Str := Str.ofString "c"
theorem nm_facts : ∀ a : Fin 12, (Txt.mul cA (a : Nat)).length ≤ 12 ∧ (Txt.mul cA (11 - (a : Nat) : Int)).length ≤ 12 ∧ (Txt.mul cA (a : Nat) ++ cB).length ≤ 13 ∧ (Txt.mul cA (a : Nat) ++ cC).length ≤ 13 ∧
    nmOk (Txt.mul cA (a : Nat) ++ cB ++ Txt.mul cA (11 - (a : Nat) : Int)) = true ∧ nmOk (Txt.mul cA (a : Nat) ++ cC ++ Txt.mul cA (11 - (a : Nat) : Int)) = true := by decide +kernel
theorem pickN (i : Int) (a b c d : Str) (h0 : 0 ≤ i) (h1 : i < 4) (ha : nmOk a = true) (hb : nmOk b = true) (hc : nmOk c = true) (hd : nmOk d = true) : ∃ x : Str, nmOk x = true ∧ atI [D.str a, D.str b, D.str c, D.str d] i = some (D.str x) := by
  have : i = 0 ∨ i = 1 ∨ i = 2 ∨ i = 3 := by omega
  rcases this with rfl | rfl | rfl | rfl
  · exact ⟨a, ha, by simp⟩
  · exact ⟨b, hb, by simp⟩
  · exact ⟨c, hc, by simp⟩
  · exact ⟨d, hd, by simp⟩
noncomputable def InvS (ns : List Int) (n last : Nat) (net : D) (a b c d : Str) (xs : List Nat) (ev : Ev) : Prop := ∃ ss x4 x6 x7 x8, ev = [some (.fz, .scr (ns.map D.int)), some (.fz, net), some (.fz, .int last), some (.ow, .lst (ss.map signD)), x4, some (.ow, .lst [.str a, .str b, .str c, .str d]), x6, x7, x8] ∧ SignsOk n last ss ∧ ss.length + xs.length ≤ 4
theorem signs_j1 {ns : List Int} {n last : Nat} {ps : List Path} {a b c d : Str} {x4 : Option (Kd × D)} (hn : 0 < n) (hl : last < 1000) (ha : nmOk a = true) (hb : nmOk b = true) (hc : nmOk c = true) (hd : nmOk d = true) :
    Wp (g_L_signs_j1 [some (.fz, .scr (ns.map D.int)), some (.fz, netD n ps), some (.fz, .int last), some (.ow, .lst []), x4, some (.ow, .lst [.str a, .str b, .str c, .str d]), none, none, none]) (runQ fun x => ∃ ss, SignsOk n last ss ∧ ss.length ≤ 4 ∧ x = .ok .ow (.lst (ss.map signD))) := by
  have hc2 := cell_ok2 (ns := ns)
  have hm := mix_ok (cellF ns 2) 2 (by decide) (by decide)
  have e0 : idxD (netD n ps) (.int 0) = some (.fz, .int n) := by simp [netD]
  simp (disch := first | omega | rfl) [g_L_signs_j1, hc2, hm]
  rw [rangeD_eq]
  refine wp_forM (InvS ns n last (netD n ps) a b c d) ?_ ?_ ⟨[], _, _, _, _, rfl, ⟨by simp, by simp, by simp, by simp⟩, by simp; (clear hl hn; omega)⟩
  · rintro k xs _ ⟨p2, hp2⟩ ⟨ss, x4, x6, x7, x8, rfl, so, hlen⟩
    have hk : k < 5 := by
      have : k ∈ List.range (mixF (cellF ns 2) 2 % 5).toNat := by rw [hp2]; simp
      simp at this; (clear hlen hl hn; omega)
    simp only [List.length_cons] at hlen
    refine ⟨_, rfl, ?_⟩
    simp only [Int.zero_add]
    have hck := cell_okI (ns := ns) (j := 3 + k) (i := 3 + k) (by simp)
    have hmk := mix_ok (cellF ns (3 + k)) (500 + k) (by (clear hk hlen hl hn; omega)) (by (clear hlen hl hn; omega))
    have hnk := mix_nn (cellF ns (3 + k)) (500 + k) (by (clear hk hlen hl hn; omega)) (by (clear hlen hl hn; omega))
    generalize mixF (cellF ns (3 + k)) (500 + k) = nu at *
    obtain ⟨h, eh, hh⟩ := emod_nat nu hn
    obtain ⟨t, et, ht⟩ := emod_nat (nu / 5) (n := last + 1) (by (clear hh eh hnk hk hlen hl hn; omega))
    have et : nu / 5 % ((last : Int) + 1) = t := by rw [← et]; simp
    obtain ⟨x, hx, ex⟩ := pickN (nu / 300 % 4) a b c d (by (clear et ht hh eh hnk hk hlen hl hn; omega)) (by (clear et ht hh eh hnk hk hlen hl hn; omega)) ha hb hc hd
    have hx2 : PyData.strOk x = true := by simp [nmOk] at hx; exact hx.1.1
    have hin : notInD (.tup [.int h, .int t, .str x]) (.lst (ss.map signD)) = some (.fz, .bl (decide (signD (h, t, x) ∉ ss.map signD))) := notInD_pl rfl (by simp [pl, plL, hx2]) (plL_ups (signs_pl so))
    have hL : ss.length < LIM := by simp [LIM]; (clear et ht hh eh hnk hk hl hn; omega)
    simp (disch := first | omega | rfl) [g_L_signs_b1, hck, hmk, e0, eh, et, ex, hin]
    refine wp_if1 ?_ ?_ <;> intro hq <;> simp (disch := first | omega | rfl) [hL]
    · have hq : (h, t, x) ∉ ss := by simpa [signD_mem] using hq
      have h1 : ss.map signD ++ [D.tup [.int h, .int t, .str x]] = (ss ++ [(h, t, x)]).map signD := by simp [signD]
      rw [h1]
      refine ⟨ss ++ [(h, t, x)], _, _, _, _, rfl, ⟨fun y hy => ?_, fun y hy => ?_, fun y hy => ?_, ?_⟩, by simp; (clear hL et ht hh eh hnk hk hl hn; omega)⟩
      · rcases List.mem_append.1 hy with hy | hy
        · exact so.h y hy
        · simp at hy; subst hy; exact hh
      · rcases List.mem_append.1 hy with hy | hy
        · exact so.t y hy
        · simp at hy; subst hy; show t ≤ last; (clear hL et hh eh hnk hk hlen hl hn; omega)
      · rcases List.mem_append.1 hy with hy | hy
        · exact so.nm y hy
        · simp at hy; subst hy; exact hx
      · rw [List.nodup_append]
        exact ⟨so.nd, by simp, fun y hy z hz => by simp at hz; subst hz; rintro rfl; exact hq hy⟩
    · exact ⟨ss, _, _, _, _, rfl, so, by (clear hL et ht hh eh hnk hk hl hn; omega)⟩
  · rintro _ ⟨ss, x4, x6, x7, x8, rfl, so, hlen⟩
    simp (disch := first | omega | rfl) []
    exact ⟨ss, so, by simpa using hlen, rfl⟩
theorem signs_ok (ns : List Int) {n last : Nat} {ps : List Path} (hn : 0 < n) (hl : last < 1000) : ∃ ss, SignsOk n last ss ∧ ss.length ≤ 4 ∧ φ_L_signs [.scr (ns.map D.int), netD n ps, .int last] = .ok .ow (.lst (ss.map signD)) := by
  refine run_el (φ_L_signs [.scr (ns.map D.int), netD n ps, .int last]) rfl ?_
  have hc2 := cell_ok2 (ns := ns)
  obtain ⟨a, ea, ha⟩ := emod_nat (cellF ns 2 / 25) (n := 12) (by decide)
  have ea : cellF ns 2 / 25 % 12 = (a : Int) := ea
  obtain ⟨f1, f2, f3, f4, f5, f6⟩ := nm_facts ⟨a, ha⟩
  dsimp only at f1 f2 f3 f4 f5 f6
  have lA : cA.length = 1 := by decide +kernel
  have lB : cB.length = 1 := by decide +kernel
  have lC : cC.length = 1 := by decide +kernel
  have sA : Str.ofString "a" = cA := rfl
  have sB : Str.ofString "b" = cB := rfl
  have sC : Str.ofString "c" = cC := rfl
  simp (disch := first | omega | rfl) [ev0, g_L_signs, hc2, ea, sA, sB, sC]
  refine wp_if ?_ ?_ <;> intro hq
  · have m1 : mulD (.str cA) (.int a) = some (.fz, .str (Txt.mul cA a)) := mulD_str (by (clear lC lB f4 f3 f2 f1 ea ha hl hn; omega))
    have m2 : mulD (.str cA) (.int (11 - a)) = some (.fz, .str (Txt.mul cA (11 - a))) := mulD_str (by (clear lC lB f4 f3 f2 f1 ea ha hl hn; omega))
    have m3 : mulD (.str cA) (.int 11) = some (.fz, .str (Txt.mul cA 11)) := mulD_str (by (clear lC lB f4 f3 f2 f1 ea ha hl hn; omega))
    simp (disch := first | omega | rfl) [m1, m2, m3, sA, sB, sC, hc2]
    exact signs_j1 hn hl (by decide +kernel) f5 f6 (by decide +kernel)
  · simp (disch := first | omega | rfl) []
    exact signs_j1 hn hl (by decide +kernel) (by decide +kernel) (by decide +kernel) (by decide +kernel)
noncomputable def KeysB (ps1 : List Path) (p : Path) (l : Nat) (rs : List Run) : Prop := ∀ r ∈ rs, (r.1, r.2.1) ∈ ps1.map ends ∨ ((r.1, r.2.1) = ends p ∧ r.2.2.1 < l)
noncomputable abbrev evT (S : List D) (net : D) (last : Nat) (rs : List Run) (k : Nat) (l : Ev) : Ev := some (.fz, .scr S) :: some (.fz, net) :: some (.fz, .int last) :: some (.ow, .lst (rs.map runD)) :: some (.fz, .int k) :: l
noncomputable def DueB (ps1 : List Path) (last : Nat) (rs : List Run) : Prop := ∀ s g m (l : Nat), (s, g, some m) ∈ ps1 → (l : Int) + m ≤ last → ∃ c, (s, g, l, c) ∈ rs
noncomputable def InvT1 (ns : List Int) (net : D) (ps : List Path) (last : Nat) (ps1 : List Path) (p : Path) (xs : List Nat) (ev : Ev) : Prop := ∃ rs k x8 x9 x10, ev = evT (ns.map D.int) net last rs k [some (.fz, .int p.1), some (.fz, .int p.2.1), some (.fz, optD p.2.2), x8, x9, x10] ∧ RunsOk ps last rs ∧ DueB ps1 last rs ∧
  ∃ l, xs = List.range' l (last - l) ∧ l ≤ last ∧ KeysB ps1 p l rs ∧ k = ps1.length * last + l ∧ rs.length ≤ k ∧ ∀ m (l' : Nat), p.2.2 = some m → l' < l → (l' : Int) + m ≤ last → ∃ c, (p.1, p.2.1, l', c) ∈ rs
noncomputable def InvT2 (ns : List Int) (net : D) (ps : List Path) (last : Nat) (xs : List Path) (ev : Ev) : Prop := ∃ rs k ps1 x5 x6 x7 x8 x9 x10, ev = evT (ns.map D.int) net last rs k [x5, x6, x7, x8, x9, x10] ∧ ps = ps1 ++ xs ∧ RunsOk ps last rs ∧ DueB ps1 last rs ∧ (∀ r ∈ rs, (r.1, r.2.1) ∈ ps1.map ends) ∧ k = ps1.length * last ∧ rs.length ≤ k
theorem tale_j1 {ns : List Int} {net : D} {ps ps1 : List Path} {p : Path} {last k l c : Nat} {rs : List Run} {xs : List Nat} {x9 : Option (Kd × D)} {h : Ev → Fl} {Q : Fl → Prop} (hp : p ∈ ps) (hnot : ends p ∉ ps1.map ends) (hl : l < last) (hk : k = ps1.length * last + l + 1) (hk2 : k ≤ 10000) (ro : RunsOk ps last rs) (du : DueB ps1 last rs) (kb : KeysB ps1 p l rs) (hx : xs = List.range' (l + 1) (last - (l + 1))) (hlen : rs.length < k)
    (hd : ∀ m (l' : Nat), p.2.2 = some m → l' < l → (l' : Int) + m ≤ last → ∃ c, (p.1, p.2.1, l', c) ∈ rs) (hlc : l < c) (hm : ∀ m, p.2.2 = some m → (c : Int) ≤ l + m) :
    Wp (g_L_tale_j1 (evT (ns.map D.int) net last rs k [some (.fz, .int p.1), some (.fz, .int p.2.1), some (.fz, optD p.2.2), some (.fz, .int l), x9, some (.fz, .int c)])) (loopQ (InvT1 ns net ps last ps1 p xs) h Q) := by
  have kb' : ∀ r ∈ rs, (r.1, r.2.1) ∈ ps1.map ends ∨ ((r.1, r.2.1) = ends p ∧ r.2.2.1 < l + 1) := fun r hr => by
    rcases kb r hr with z | z
    · exact .inl z
    · exact .inr ⟨z.1, by (clear hlc hlen hk2 hk hl; omega)⟩
  have hL : rs.length < LIM := by simp [LIM]; (clear hlc hk hl; omega)
  simp (disch := first | omega | rfl) [g_L_tale_j1]
  refine wp_if1 ?_ ?_ <;> intro hq <;> simp (disch := first | omega | rfl) [hL]
  · simp at hq
    have h1 : rs.map runD ++ [D.tup [.int p.1, .int p.2.1, .int l, .int c]] = (rs ++ [(p.1, p.2.1, l, c)]).map runD := by simp [runD]
    rw [h1]
    refine ⟨rs ++ [(p.1, p.2.1, l, c)], k, _, _, _, rfl, ⟨fun r hr => ?_, fun r hr => ?_, ?_⟩, fun s g m l' h1 h2 => ?_, l + 1, hx, by (clear hq hL hlc hlen hk2 hk; omega), fun r hr => ?_, by (clear hq hL hlc hlen hk2 hl; omega), by simp; (clear hq hL hlc hk2 hk hl; omega), fun m l' e1 h2 h3 => ?_⟩
    · rcases List.mem_append.1 hr with hr | hr
      · exact ro.path r hr
      · simp at hr; subst hr; exact ⟨p.2.2, hp, hm⟩
    · rcases List.mem_append.1 hr with hr | hr
      · exact ro.turn r hr
      · simp at hr; subst hr; exact ⟨hlc, by show c ≤ last; (clear hL hlc hlen hk2 hk hl; omega)⟩
    · rw [List.map_append, List.nodup_append]
      refine ⟨ro.nd, by simp, fun a ha b hb => ?_⟩
      simp at hb; subst hb
      obtain ⟨r, hr, rfl⟩ := List.mem_map.1 ha
      intro e
      simp [rkey] at e
      rcases kb r hr with z | z
      · refine hnot ?_
        have : (r.1, r.2.1) = ends p := by simp [ends, e.1, e.2.1]
        rw [← this]; exact z
      · (clear hq hL hlc hlen hk2 hk hl; omega)
    · obtain ⟨c', hc'⟩ := du s g m l' h1 h2
      exact ⟨c', by simp [hc']⟩
    · rcases List.mem_append.1 hr with hr | hr
      · exact kb' r hr
      · simp at hr; subst hr; exact .inr ⟨rfl, by show l < l + 1; (clear hq hL hlc hlen hk2 hk hl; omega)⟩
    · by_cases e : l' = l
      · subst e; exact ⟨c, by simp⟩
      · obtain ⟨c', hc'⟩ := hd m l' e1 (by (clear h3 hq hL hlc hlen hk2 hk hl; omega)) h3
        exact ⟨c', by simp [hc']⟩
  · simp at hq
    refine ⟨rs, k, _, _, _, rfl, ro, du, l + 1, hx, by (clear hq hL hlc hlen hk2 hk; omega), kb', by (clear hq hL hlc hlen hk2 hl; omega), by (clear hq hL hlc hk2 hk hl; omega), fun m l' e1 h2 h3 => ?_⟩
    by_cases e : l' = l
    · subst e; have := hm m e1; (clear h2 hlc hk hl hL hlen hk2; omega)
    · exact hd m l' e1 (by (clear h3 hq hL hlc hlen hk2 hk hl; omega)) h3
theorem tale_b1 {ns : List Int} {net : D} {ps ps1 : List Path} {p : Path} {last k l : Nat} {rs : List Run} {xs : List Nat} {x9 x10 : Option (Kd × D)} {h : Ev → Fl} {Q : Fl → Prop} (hp : p ∈ ps) (hpm : ∀ m, p.2.2 = some m → 1 ≤ m) (hnot : ends p ∉ ps1.map ends) (hl : l < last) (hk : k = ps1.length * last + l) (hk2 : k + 1 ≤ 10000) (ro : RunsOk ps last rs) (du : DueB ps1 last rs) (kb : KeysB ps1 p l rs) (hx : xs = List.range' (l + 1) (last - (l + 1))) (hlen : rs.length ≤ k)
    (hd : ∀ m (l' : Nat), p.2.2 = some m → l' < l → (l' : Int) + m ≤ last → ∃ c, (p.1, p.2.1, l', c) ∈ rs) :
    Wp (g_L_tale_b1 (evT (ns.map D.int) net last rs k [some (.fz, .int p.1), some (.fz, .int p.2.1), some (.fz, optD p.2.2), some (.fz, .int l), x9, x10])) (loopQ (InvT1 ns net ps last ps1 p xs) h Q) := by
  have hck := cell_okI (ns := ns) (j := 3 + ((k : Int) + 1) % 60) (i := 3 + (k + 1) % 60) (by (clear hlen hk2 hk hl; omega))
  have hmk := mix_ok (cellF ns (3 + (k + 1) % 60)) ((k : Int) + 1) (by (clear hlen hk2 hk hl; omega)) (by (clear hlen hk hl; omega))
  have hnk := mix_nn (cellF ns (3 + (k + 1) % 60)) ((k : Int) + 1) (by (clear hlen hk2 hk hl; omega)) (by (clear hlen hk hl; omega))
  generalize mixF (cellF ns (3 + (k + 1) % 60)) ((k : Int) + 1) = nu at *
  have ek : (k : Int) + 1 = ((k + 1 : Nat) : Int) := by (clear hnk hlen hk2 hk hl; omega)
  cases o : p.2.2 with
  | none =>
    obtain ⟨c, ec, hc⟩ := emod_nat (nu / 3) (n := 4) (by decide)
    have ec : (l : Int) + 1 + nu / 3 % 4 = ((l + 1 + c : Nat) : Int) := by rw [show nu / 3 % 4 = (c : Int) from ec]; (clear hc ec ek hnk hlen hk2 hk hl; omega)
    simp (disch := first | omega | rfl) [g_L_tale_b1, hck, hmk, optD]
    refine wp_if ?_ ?_ <;> intro hq <;> simp (disch := first | omega | rfl) [g_L_tale_j3, g_L_tale_j2]
    · rw [ek]
      refine ⟨rs, k + 1, _, _, _, by rw [o]; rfl, ro, du, l + 1, hx, by (clear ec hc ek hnk hlen hk2 hk; omega), fun r hr => ?_, by (clear ec hc ek hnk hlen hk2 hl; omega), by (clear ec hc ek hnk hk2 hk hl; omega), by simp [o]⟩
      rcases kb r hr with z | z
      · exact .inl z
      · exact .inr ⟨z.1, by (clear ec hc ek hnk hlen hk2 hk hl; omega)⟩
    · rw [ec, ek]
      have := tale_j1 (ns := ns) (net := net) (x9 := some (.fz, .int nu)) (h := h) (Q := Q) (k := k + 1) (c := l + 1 + c) hp hnot hl (by (clear ec hc ek hnk hlen hk2 hl; omega)) (by (clear ec hc ek hnk hlen hk hl; omega)) ro du kb hx (by (clear ec hc ek hnk hk2 hk hl; omega)) hd (by (clear ec hc ek hnk hlen hk2 hk hl; omega)) (by simp [o])
      rw [o] at this
      exact this
  | some m =>
    have m1 := hpm m o
    have hmin : (0 : Int) < min m 4 := by (clear ek hnk hlen hk2 hk hl; omega)
    have e1 := Int.emod_nonneg (nu / 3) (b := min m 4) (by (clear hmin ek hnk hlen hk2 hk hl; omega))
    have e2 := Int.emod_lt_of_pos (nu / 3) hmin
    obtain ⟨c, ec, hc1, hc2⟩ : ∃ c : Nat, (l : Int) + 1 + nu / 3 % min m 4 = c ∧ l < c ∧ (c : Int) ≤ l + m := by
      refine ⟨((l : Int) + 1 + nu / 3 % min m 4).toNat, ?_, ?_, ?_⟩
      · generalize nu / 3 % min m 4 = z at *; (clear e2 hmin m1 ek hnk hlen hk2 hk hl; omega)
      · generalize nu / 3 % min m 4 = z at *; (clear e2 hmin m1 ek hnk hlen hk2 hk hl; omega)
      · generalize nu / 3 % min m 4 = z at *; (clear e1 hmin ek hnk hlen hk2 hk hl; omega)
    obtain ⟨c', ec', hc'⟩ : ∃ c' : Nat, (l : Int) + m = c' ∧ l < c' := ⟨((l : Int) + m).toNat, by (clear hc2 hc1 ec e2 e1 hmin ek hnk hlen hk2 hk hl; omega), by (clear hc2 hc1 ec e2 e1 hmin ek hnk hlen hk2 hk hl; omega)⟩
    simp (disch := first | omega | rfl) [g_L_tale_b1, hck, hmk, optD, g_L_tale_j3, g_L_tale_j2]
    refine wp_if ?_ ?_ <;> intro hq <;> simp (disch := first | omega | rfl) []
    · rw [ec', ek]
      have := tale_j1 (ns := ns) (net := net) (x9 := some (.fz, .int nu)) (h := h) (Q := Q) (k := k + 1) (c := c') hp hnot hl (by (clear hc' ec' hc2 hc1 ec e2 e1 hmin m1 ek hnk hlen hk2 hl; omega)) (by (clear hc' ec' hc2 hc1 ec e2 e1 hmin m1 ek hnk hlen hk hl; omega)) ro du kb hx (by (clear hc' ec' hc2 hc1 ec e2 e1 hmin m1 ek hnk hk2 hk hl; omega)) hd hc' (by rintro m' e; rw [o] at e; cases e; (clear hc' hc2 hc1 ec e2 e1 hmin m1 ek hnk hlen hk2 hk hl; omega))
      rw [o] at this
      exact this
    · rw [ec, ek]
      have := tale_j1 (ns := ns) (net := net) (x9 := some (.fz, .int nu)) (h := h) (Q := Q) (k := k + 1) (c := c) hp hnot hl (by (clear hc' ec' hc2 hc1 ec e2 e1 hmin m1 ek hnk hlen hk2 hl; omega)) (by (clear hc' ec' hc2 hc1 ec e2 e1 hmin m1 ek hnk hlen hk hl; omega)) ro du kb hx (by (clear hc' ec' hc2 hc1 ec e2 e1 hmin m1 ek hnk hk2 hk hl; omega)) hd hc1 (by rintro m' e; rw [o] at e; cases e; (clear hc' ec' hc2 hc1 e1 hmin m1 ek hnk hlen hk2 hk hl; omega))
      rw [o] at this
      exact this
theorem RunsOk.reverse {ps : List Path} {last : Nat} {rs : List Run} (h : RunsOk ps last rs) : RunsOk ps last rs.reverse :=
  ⟨fun r hr => h.path r (by simpa using hr), fun r hr => h.turn r (by simpa using hr), by rw [List.map_reverse]; exact (List.reverse_perm _).nodup_iff.2 h.nd⟩
theorem tale_ok (ns : List Int) {n : Nat} {ps : List Path} (ok : NetOk n ps) (hps : ps.length ≤ 64) : ∃ last rs ss, GoodT n ps last rs ss ∧ last ≤ 24 ∧ rs.length ≤ 1600 ∧ ss.length ≤ 4 ∧ φ_L_tale [.scr (ns.map D.int), netD n ps] = .ok .fz (taleD last rs ss) := by
  have hc0 := cell_ok0 (ns := ns)
  have hc2 := cell_ok2 (ns := ns)
  have hm := mix_ok (cellF ns 0) 1 (by decide) (by decide)
  refine run_el (φ_L_tale [.scr (ns.map D.int), netD n ps]) rfl ?_
  have e1 : idxD (netD n ps) (.int 1) = some (.fz, .lst (ps.map pathD)) := by simp [netD]
  have j6 : ∀ (last : Nat) (Q : Fl → Prop), last ≤ 24 → Q = runQ (fun x => ∃ last rs ss, GoodT n ps last rs ss ∧ last ≤ 24 ∧ rs.length ≤ 1600 ∧ ss.length ≤ 4 ∧ x = .ok .fz (taleD last rs ss)) → Wp (g_L_tale_j6 [some (.fz, .scr (ns.map D.int)), some (.fz, netD n ps), some (.fz, .int last), none, none, none, none, none, none, none, none]) Q := fun last Q hlast hQ => by
    simp (disch := first | omega | rfl) [g_L_tale_j6, e1]
    refine wp_forM (InvT2 ns (netD n ps) ps last) ?_ ?_ ⟨[], 0, [], _, _, _, _, _, _, rfl, rfl, ⟨by simp, by simp, by simp⟩, by simp [DueB], by simp, by simp, by simp⟩
    · rintro ⟨s, g, o⟩ xs _ _ ⟨rs, k, ps1, x5, x6, x7, x8, x9, x10, rfl, hp, ro, du, kb, hk, hlen⟩
      have hmem : (s, g, o) ∈ ps := by rw [hp]; simp
      have hnot : ends (s, g, o) ∉ ps1.map ends := by
        have := ok.nd
        rw [hp, List.map_append, List.nodup_append] at this
        intro z
        exact this.2.2 _ z _ (by simp) rfl
      have hb : ps1.length < 64 := by have := congrArg List.length hp; simp at this; (clear hlen hk hlast; omega)
      have hkb : ps1.length * last ≤ 63 * 24 := Nat.mul_le_mul (by (clear hlen hk hlast hps; omega)) hlast
      refine ⟨_, rfl, ?_⟩
      simp (disch := first | omega | rfl) [g_L_tale_b2]
      rw [rangeD_eq, range_eq']
      refine wp_forM1 (InvT1 ns (netD n ps) ps last ps1 (s, g, o)) ?_ ?_ ⟨rs, k, _, _, _, rfl, ro, du, 0, rfl, by (clear hkb hb hlen hk hlast hps; omega), fun r hr => .inl (kb r hr), by (clear hkb hb hlen hlast hps; omega), hlen, by intro m l' _ h; (clear hkb hb hlen hk hlast hps; omega)⟩
      · rintro l ys _ _ ⟨rs, k, y8, y9, y10, rfl, ro, du, l', hys, hl', kb, hk, hlen, hd⟩
        obtain ⟨rfl, hl, hy'⟩ := range'_cons hys
        refine ⟨_, rfl, ?_⟩
        simp only [Int.zero_add]
        exact tale_b1 (x9 := y9) (x10 := y10) hmem (fun m e => (ok.m _ hmem m e).1) hnot hl hk (by (clear hl hlen hb hps; omega)) ro du kb hy' hlen hd
      · rintro _ ⟨rs, k, y8, y9, y10, rfl, ro, du, l', hys, hl', kb, hk, hlen, hd⟩
        have : l' = last := by
          have := congrArg List.length hys
          simp at this; (clear hlen hk hkb hb hlast hps; omega)
        subst this
        refine ⟨rs, k, ps1 ++ [(s, g, o)], _, _, _, _, _, _, rfl, by rw [hp]; simp, ro, fun s' g' m l h1 h2 => ?_, fun r hr => ?_, by simp [Nat.succ_mul]; (clear hl' hkb hlast hlen hb hps; omega), hlen⟩
        · rcases List.mem_append.1 h1 with h1 | h1
          · exact du s' g' m l h1 h2
          · simp at h1
            obtain ⟨rfl, rfl, rfl⟩ := h1
            have := (ok.m _ hmem m rfl).1
            exact hd m l rfl (by (clear hk hl' hkb hlast hlen hb hps; omega)) h2
        · rcases kb r hr with z | z
          · simp at z ⊢; exact .inl z
          · simp [z.1]
    · rintro _ ⟨rs, k, ps1, x5, x6, x7, x8, x9, x10, rfl, hp, ro, du, kb, hk, hlen⟩
      simp at hp
      subst hp
      have hkb : ps.length * last ≤ 64 * 24 := Nat.mul_le_mul hps hlast
      obtain ⟨ss, so, hss, hs⟩ := signs_ok ns (n := n) (last := last) (ps := ps) (by have := ok.n1; (clear hkb hk hlen hlast hps; omega)) (by (clear hkb hk hlen hps; omega))
      simp (disch := first | omega | rfl) [g_L_tale_j5]
      refine wp_if ?_ ?_ <;> intro hq <;> simp (disch := first | omega | rfl) [g_L_tale_j4, hs]
      · subst hQ
        simp (disch := first | omega | rfl) []
        refine ⟨last, rs.reverse, ss, ⟨ro.reverse, fun s g m l h1 h2 => ?_, so⟩, hlast, by simp; (clear hss hlast hps; omega), hss, by simp [taleD]⟩
        obtain ⟨c, hc⟩ := du s g m l h1 h2
        exact ⟨c, by simpa using hc⟩
      · subst hQ
        simp (disch := first | omega | rfl) []
        exact ⟨last, rs, ss, ⟨ro, du, so⟩, hlast, by (clear hss hlast hps; omega), hss, rfl⟩
  obtain ⟨a, ea, ha⟩ := emod_nat (cellF ns 2) (n := 9) (by decide)
  obtain ⟨b, eb, hb⟩ := emod_nat (cellF ns 2) (n := 25) (by decide)
  have ea : cellF ns 2 % 9 = (a : Int) := ea
  have eb : cellF ns 2 % 25 = (b : Int) := eb
  simp (disch := first | omega | rfl) [ev0, g_L_tale, hc0, hc2, hm, ea]
  refine wp_if ?_ ?_ <;> intro hq <;> simp (disch := first | omega | rfl) [hc2, eb]
  · exact j6 b _ (by (clear eb ea hb ha hps; omega)) rfl
  · exact j6 a _ (by (clear eb ea hb ha hps; omega)) rfl

section
variable {n last : Nat} {ps : List Path} {rs : List Run} {ss : List Sign}
theorem tale_runs : idxD (taleD last rs ss) (.int 1) = some (.fz, .lst (rs.map runD)) := by simp [taleD]
theorem tale_signs : idxD (taleD last rs ss) (.int 2) = some (.fz, .lst (ss.map signD)) := by simp [taleD]
theorem tale_last : idxD (taleD last rs ss) (.int 0) = some (.fz, .int last) := by simp [taleD]
theorem net_n : idxD (netD n ps) (.int 0) = some (.fz, .int n) := by simp [netD]
theorem net_ps : idxD (netD n ps) (.int 1) = some (.fz, .lst (ps.map pathD)) := by simp [netD]
end
theorem RunsOk.all {n last : Nat} {ps : List Path} {rs : List Run} (ok : NetOk n ps) (ro : RunsOk ps last rs) : ∀ r ∈ rs, r.1 < n ∧ r.2.1 < n ∧ r.2.2.1 < r.2.2.2 ∧ r.2.2.2 ≤ last := fun r hr => by
  obtain ⟨o, ho, _⟩ := ro.path r hr
  exact ⟨ok.s _ ho, ok.g _ ho, ro.turn r hr⟩
inductive Hears (rs : List Run) (h t : Nat) : Nat → Nat → Prop
  | self {u : Nat} : u ≤ t → Hears rs h t h u
  | run {r : Run} {u : Nat} : r ∈ rs → Hears rs h t r.2.1 r.2.2.2 → u ≤ r.2.2.1 → Hears rs h t r.1 u
noncomputable def eAt (E : List Int) (v : Nat) : Int := (E[v]?).getD (-1)
theorem eAt_set {E : List Int} {j v : Nat} {x : Int} (hj : j < E.length) : eAt (E.set j x) v = if v = j then x else eAt E v := by
  unfold eAt
  by_cases h : v = j
  · subst h; rw [List.getElem?_set_self hj, if_pos rfl]; rfl
  · rw [List.getElem?_set_ne (fun z => h z.symm), if_neg h]
structure EndsOk (rs : List Run) (n h t : Nat) (E : List Int) : Prop where
  len : E.length = n
  low : ∀ v, -1 ≤ eAt E v
  iff : ∀ v u : Nat, v < n → ((u : Int) ≤ eAt E v ↔ Hears rs h t v u)
theorem EndsOk.uniq {rs : List Run} {n h t : Nat} {E E' : List Int} (a : EndsOk rs n h t E) (b : EndsOk rs n h t E') : E = E' := by
  refine List.ext_getElem (by rw [a.len, b.len]) fun v h1 h2 => ?_
  have e1 : eAt E v = E[v] := by simp [eAt, h1]
  have e2 : eAt E' v = E'[v] := by simp [eAt, h2]
  rw [← e1, ← e2]
  have l1 := a.low v
  have l2 := b.low v
  have hv : v < n := by rw [← a.len]; exact h1
  by_cases c1 : 0 ≤ eAt E v
  · have q := (b.iff v (eAt E v).toNat hv).2 ((a.iff v (eAt E v).toNat hv).1 (by omega))
    have q2 := (a.iff v (eAt E' v).toNat hv).2 ((b.iff v (eAt E' v).toNat hv).1 (by omega))
    omega
  · by_cases c2 : 0 ≤ eAt E' v
    · have q2 := (a.iff v (eAt E' v).toNat hv).2 ((b.iff v (eAt E' v).toNat hv).1 (by omega))
      omega
    · omega
theorem ints_at {E : List Int} {v : Nat} (h : v < E.length) : atI (E.map D.int) (v : Int) = some (.int (eAt E v)) := atI_of (by simp [eAt, h])
noncomputable def spotD (h t : Nat) : D := .tup [.int h, .int t]
theorem Hears.last {rs : List Run} {last h t v u : Nat} (hr : ∀ r ∈ rs, r.2.2.1 < r.2.2.2 ∧ r.2.2.2 ≤ last) (ht : t ≤ last) (x : Hears rs h t v u) : u ≤ last := by
  cases x with
  | self h1 => omega
  | run h1 h2 h3 => have := hr _ h1; omega
noncomputable def pot (last : Nat) : List Int → Nat
  | [] => 0
  | x :: E => ((last : Int) + 1 - x).toNat + pot last E
theorem pot_set {last : Nat} {x : Int} : ∀ {E : List Int} {j : Nat}, j < E.length → eAt E j < x → x ≤ last → pot last (E.set j x) < pot last E
  | [], _, h, _, _ => by simp at h
  | y :: E, 0, _, h1, h2 => by
    have : y < x := by simpa [eAt] using h1
    show ((last : Int) + 1 - x).toNat + pot last E < ((last : Int) + 1 - y).toNat + pot last E
    (clear h1; omega)
  | y :: E, j + 1, h, h1, h2 => by
    have := pot_set (E := E) (j := j) (by simpa using h) (by simpa [eAt] using h1) h2
    show ((last : Int) + 1 - y).toNat + pot last (E.set j x) < ((last : Int) + 1 - y).toNat + pot last E
    (clear h2 h1 h; omega)
theorem pot_le {last : Nat} : ∀ {E : List Int}, (∀ v, -1 ≤ eAt E v) → pot last E ≤ E.length * (last + 2)
  | [], _ => by simp [pot]
  | x :: E, h => by
    have h0 : -1 ≤ x := by simpa [eAt] using h 0
    have := pot_le (last := last) (E := E) fun v => by simpa [eAt] using h (v + 1)
    show ((last : Int) + 1 - x).toNat + pot last E ≤ (E.length + 1) * (last + 2)
    rw [Nat.add_mul]
    omega
structure EndsB (rs : List Run) (n h t : Nat) (E : List Int) : Prop where
  len : E.length = n
  low : ∀ v, -1 ≤ eAt E v
  snd : ∀ v u : Nat, (u : Int) ≤ eAt E v → Hears rs h t v u
  own : (t : Int) ≤ eAt E h
noncomputable def ClosedR (E : List Int) (r : Run) : Prop := (r.2.2.2 : Int) ≤ eAt E r.2.1 → (r.2.2.1 : Int) ≤ eAt E r.1
noncomputable def ClosedL (E : List Int) (rs : List Run) : Prop := ∀ r ∈ rs, ClosedR E r
theorem EndsB.ok {rs : List Run} {n h t : Nat} {E : List Int} (b : EndsB rs n h t E) (c : ClosedL E rs) : EndsOk rs n h t E :=
  ⟨b.len, b.low, fun v u hv => ⟨b.snd v u, fun x => by
    clear hv
    induction x with
    | self h1 => have := b.own; omega
    | run h1 h2 h3 ih => have := c _ h1 ih; (clear ih; omega)⟩⟩
theorem EndsB.put {rs : List Run} {n h t : Nat} {E : List Int} {r : Run} (b : EndsB rs n h t E) (hr : r ∈ rs) (hs : r.1 < n) (h1 : (r.2.2.2 : Int) ≤ eAt E r.2.1) (h2 : eAt E r.1 < r.2.2.1) : EndsB rs n h t (E.set r.1 (r.2.2.1 : Int)) := by
  have hl : r.1 < E.length := by rw [b.len]; exact hs
  refine ⟨by rw [List.length_set]; exact b.len, fun v => ?_, fun v u => ?_, ?_⟩
  · rw [eAt_set hl]; have := b.low v; split <;> omega
  · rw [eAt_set hl]
    split
    · rename_i e
      intro hu
      rw [e]
      exact .run hr (b.snd _ _ h1) (by (clear e hl h2 h1 hs; omega))
    · exact b.snd v u
  · rw [eAt_set hl]
    have := b.own
    split
    · rename_i e; rw [← e] at h2; (clear e hl h1 hs; omega)
    · exact this
section
variable {n h t last : Nat} {ps : List Path} {rs : List Run} {ss : List Sign}
noncomputable abbrev evE (n : Nat) (ps : List Path) (last : Nat) (rs : List Run) (ss : List Sign) (h t : Nat) (E : List Int) (f : Bool) (l : Ev) : Ev := some (.fz, netD n ps) :: some (.fz, taleD last rs ss) :: some (.fz, spotD h t) :: some (.ow, .lst (E.map D.int)) :: some (.fz, .bl f) :: l
noncomputable def InvE (n : Nat) (ps : List Path) (last : Nat) (rs : List Run) (ss : List Sign) (h t : Nat) (p0 : Nat) (xs : List Run) (ev : Ev) : Prop := ∃ E f pre x5 x6 x7 x8, ev = evE n ps last rs ss h t E f [x5, x6, x7, x8] ∧ rs = pre ++ xs ∧ EndsB rs n h t E ∧ (f = false → ClosedL E pre) ∧ (f = true → pot last E < p0) ∧ pot last E ≤ p0
noncomputable def InvEW (n : Nat) (ps : List Path) (last : Nat) (rs : List Run) (ss : List Sign) (h t : Nat) (m : Nat) (ev : Ev) : Prop := ∃ E f x5 x6 x7 x8, ev = evE n ps last rs ss h t E f [x5, x6, x7, x8] ∧ EndsB rs n h t E ∧ (f = false → m = 0 ∧ ClosedL E rs) ∧ (f = true → m = pot last E + 1)
theorem ends_ok (hn : 1 ≤ n) (h8 : n ≤ 8) (hl : last ≤ 60) (ht : t ≤ last) (hh : h < n) (hr : ∀ r ∈ rs, r.1 < n ∧ r.2.1 < n ∧ r.2.2.1 < r.2.2.2 ∧ r.2.2.2 ≤ last) :
    ∃ E, EndsOk rs n h t E ∧ φ_L_ends [netD n ps, taleD last rs ss, spotD h t] = .ok .ow (.lst (E.map D.int)) := by
  refine run_el (φ_L_ends [netD n ps, taleD last rs ss, spotD h t]) rfl ?_
  have e0 : idxD (netD n ps) (.int 0) = some (.fz, .int n) := by simp [netD]
  have e1 : idxD (taleD last rs ss) (.int 1) = some (.fz, .lst (rs.map runD)) := by simp [taleD]
  have e2 : idxD (spotD h t) (.int 0) = some (.fz, .int h) := by simp [spotD]
  have e3 : idxD (spotD h t) (.int 1) = some (.fz, .int t) := by simp [spotD]
  have em : mulD (.lst [.int (-1)]) (.int n) = some (.ow, .lst ((List.replicate n (-1 : Int)).map D.int)) := by
    rw [mulD_lst (by simp [LIM]; (clear hh ht hl hn; omega))]
    simp
  have ei := ixN_of (n := n) (i := h) hh
  simp (disch := first | omega | rfl) [ev0, g_L_ends, e0, em, e2, e3, ei]
  have B0 : EndsB rs n h t ((List.replicate n (-1 : Int)).set h (t : Int)) := by
    have hl : h < (List.replicate n (-1 : Int)).length := by simpa using hh
    have r0 : ∀ v, eAt (List.replicate n (-1 : Int)) v = -1 := fun v => by
      unfold eAt
      rw [List.getElem?_replicate]
      split <;> rfl
    refine ⟨by simp, fun v => ?_, fun v u => ?_, ?_⟩
    · rw [eAt_set hl, r0]; split <;> omega
    · rw [eAt_set hl, r0]
      split
      · rename_i e; intro hu; rw [e]; exact .self (by (clear e hl hh ht h8 hn; omega))
      · intro hu; (clear hl hh ht h8 hn; omega)
    · rw [eAt_set hl, if_pos rfl]; (clear hl hh ht h8 hn; omega)
  have p0 := pot_le (last := last) B0.low
  rw [B0.len] at p0
  have p1 : n * (last + 2) ≤ 8 * 62 := Nat.mul_le_mul h8 (by (clear p0 hh ht h8 hn; omega))
  refine wp_while (InvEW n ps last rs ss h t) ?_ (m := pot last ((List.replicate n (-1 : Int)).set h (t : Int)) + 1) ⟨_, true, none, none, none, none, by simp [List.map_set], B0, by simp, fun _ => rfl⟩ (by (clear hh ht hl h8 hn; omega))
  rintro m _ ⟨E, f, x5, x6, x7, x8, rfl, B, hf, ht'⟩
  cases f with
  | false =>
    refine .inr ⟨.fz, by simp, ?_⟩
    obtain ⟨_, c⟩ := hf rfl
    simp (disch := first | omega | rfl) []
    exact ⟨E, B.ok c, rfl⟩
  | true =>
    obtain rfl := ht' rfl
    refine .inl ⟨.fz, by simp, ?_⟩
    simp (disch := first | omega | rfl) [g_L_ends_b2, e1]
    refine wp_forM1 (InvE n ps last rs ss h t (pot last E)) ?_ ?_ ⟨E, false, [], _, _, _, _, rfl, rfl, B, by simp [ClosedL], by simp, Nat.le_refl _⟩
    · rintro r xs _ - ⟨E', f, pre, x5, x6, x7, x8, rfl, hp, B', hff, hft, hle⟩
      have hm : r ∈ rs := by rw [hp]; simp
      obtain ⟨h1, h2, h3, h4⟩ := hr r hm
      have a1 := ints_at (E := E') (v := r.1) (by rw [B'.len]; exact h1)
      have a2 := ints_at (E := E') (v := r.2.1) (by rw [B'.len]; exact h2)
      have ei := ixN_of (n := n) (i := r.1) h1
      refine ⟨_, rfl, ?_⟩
      simp (disch := first | omega | rfl) [g_L_ends_b1, a1, a2]
      refine wp_if1 (fun c => ?_) fun c => ?_
      · simp at c
        simp (disch := first | omega | rfl) [B'.len, ei]
        refine ⟨E'.set r.1 (r.2.2.1 : Int), true, pre ++ [r], some (.fz, .int r.1), some (.fz, .int r.2.1), some (.fz, .int r.2.2.1), some (.fz, .int r.2.2.2), by simp [List.map_set], by simp [hp], B'.put hm h1 c.1 (by (clear h4 h3 h2 h1 hle p1 p0 hh ht hl h8 hn; omega)), by simp, fun _ => ?_, ?_⟩
        · have := pot_set (last := last) (E := E') (j := r.1) (x := (r.2.2.1 : Int)) (by rw [B'.len]; exact h1) (by (clear h4 h3 h2 h1 hle p1 p0 hh ht hl h8 hn; omega)) (by (clear c h2 h1 hle p1 p0 hh ht hl h8 hn; omega))
          (clear c h4 h3 h2 h1 p1 p0 hh ht hl h8 hn; omega)
        · have := pot_set (last := last) (E := E') (j := r.1) (x := (r.2.2.1 : Int)) (by rw [B'.len]; exact h1) (by (clear h4 h3 h2 h1 hle p1 p0 hh ht hl h8 hn; omega)) (by (clear c h2 h1 hle p1 p0 hh ht hl h8 hn; omega))
          (clear c h4 h3 h2 h1 p1 p0 hh ht hl h8 hn; omega)
      · simp at c
        simp (disch := first | omega | rfl) []
        refine ⟨E', f, pre ++ [r], _, _, _, _, rfl, by simp [hp], B', fun hf => ?_, hft, hle⟩
        have cl := hff hf
        intro q hq
        rcases List.mem_append.1 hq with hq | hq
        · exact cl q hq
        · obtain rfl := List.mem_singleton.1 hq
          exact fun z => c z
    · rintro _ ⟨E', f, pre, x5, x6, x7, x8, rfl, hp, B', hff, hft, hle⟩
      rw [List.append_nil] at hp
      simp (disch := first | omega | rfl) []
      cases f with
      | false => exact ⟨0, by (clear hle p1 p0 hh ht hl h8 hn; omega), E', false, _, _, _, _, rfl, B', fun _ => ⟨rfl, by rw [hp]; exact hff rfl⟩, by simp⟩
      | true => exact ⟨pot last E' + 1, by have := hft rfl; (clear hle p1 p0 hh ht hl h8 hn; omega), E', true, _, _, _, _, rfl, B', by simp, fun _ => rfl⟩
end
noncomputable def keyR (r : Run) : List Key := [.inl (r.1 : Int), .inl (r.2.1 : Int), .inl (r.2.2.1 : Int), .inl (r.2.2.2 : Int)]
theorem keysL_runs : ∀ rs : List Run, keysL (rs.map runD) = some (rs.map keyR)
  | [] => rfl
  | r :: rs => by
    show (keysD [.int r.1, .int r.2.1, .int r.2.2.1, .int r.2.2.2]).bind (fun k => (keysL (rs.map runD)).map (k :: ·)) = _
    rw [keysL_runs rs]; rfl
theorem keyR_inj {x y : Run} (h : keyR x = keyR y) : x = y := by
  obtain ⟨a, b, c, d⟩ := x
  obtain ⟨a', b', c', d'⟩ := y
  simp [keyR] at h
  obtain ⟨h1, h2, h3, h4⟩ := h
  simp only [Prod.mk.injEq]
  omega
theorem nodup_map_inj {α β : Type} {f : α → β} (hf : ∀ x y, f x = f y → x = y) : ∀ {l : List α}, l.Nodup → (l.map f).Nodup
  | [], _ => List.Pairwise.nil
  | x :: l, h => by
    obtain ⟨h1, h2⟩ := List.nodup_cons.1 h
    refine List.nodup_cons.2 ⟨fun z => ?_, nodup_map_inj hf h2⟩
    obtain ⟨y, hy, e⟩ := List.mem_map.1 z
    exact h1 (hf _ _ e ▸ hy)
theorem rkey_nd {rs : List Run} (h : (rs.map rkey).Nodup) : rs.Nodup := by
  have h := List.pairwise_map.1 h
  exact h.imp fun h e => h (by rw [e])

theorem Hears.le_t {rs : List Run} {h t v u : Nat} (hr : ∀ r ∈ rs, r.2.2.1 < r.2.2.2) (x : Hears rs h t v u) : u ≤ t := by
  induction x with
  | self h1 => exact h1
  | run h1 _ h3 ih => have := hr _ h1; omega
theorem Hears.sub {rs rs' : List Run} {h t v u : Nat} (hs : ∀ r ∈ rs, r ∈ rs') (x : Hears rs h t v u) : Hears rs' h t v u := by
  induction x with
  | self h1 => exact .self h1
  | run h1 _ h3 ih => exact .run (hs _ h1) ih h3
theorem hears_snoc {pre : List Run} {r : Run} {h t v u : Nat} (h1 : r.2.2.1 < r.2.2.2) (h2 : ∀ q ∈ pre, r.2.2.2 ≤ q.2.2.2) : Hears (pre ++ [r]) h t v u ↔ Hears pre h t v u ∨ (Hears pre h t r.2.1 r.2.2.2 ∧ v = r.1 ∧ u ≤ r.2.2.1) := by
  constructor
  · intro x
    induction x with
    | self h3 => exact .inl (.self h3)
    | run h3 _ h4 ih =>
      rcases List.mem_append.1 h3 with h3 | h3
      · rcases ih with ih | ⟨_, ih, ih2⟩
        · exact .inl (.run h3 ih h4)
        · have := h2 _ h3; omega
      · obtain rfl := List.mem_singleton.1 h3
        rcases ih with ih | ⟨_, ih, ih2⟩
        · exact .inr ⟨ih, rfl, h4⟩
        · omega
  · rintro (x | ⟨x, rfl, hu⟩)
    · exact x.sub fun q hq => List.mem_append_left _ hq
    · exact .run (List.mem_append_right _ (List.mem_singleton.2 rfl)) (x.sub fun q hq => List.mem_append_left _ hq) hu
noncomputable def oRunD : Option Run → D
  | none => .non
  | some r => runD r
noncomputable def bstD (x : Int × Option Run) : D := .tup [.int x.1, oRunD x.2]
noncomputable def wAt (B : List (Int × Option Run)) (v : Nat) : Int × Option Run := (B[v]?).getD (-1, none)
theorem wAt_set {B : List (Int × Option Run)} {j v : Nat} {x : Int × Option Run} (hj : j < B.length) : wAt (B.set j x) v = if v = j then x else wAt B v := by
  unfold wAt
  by_cases h : v = j
  · subst h; rw [List.getElem?_set_self hj, if_pos rfl]; rfl
  · rw [List.getElem?_set_ne (fun z => h z.symm), if_neg h]
structure WB (rs : List Run) (n h t : Nat) (B : List (Int × Option Run)) : Prop where
  len : B.length = n
  low : ∀ v, -1 ≤ (wAt B v).1
  iff : ∀ v u : Nat, v < n → ((u : Int) ≤ (wAt B v).1 ↔ Hears rs h t v u)
  own : wAt B h = ((t : Int), none)
  via : ∀ v, v < n → v ≠ h → 0 ≤ (wAt B v).1 → ∃ r, (wAt B v).2 = some r ∧ r ∈ rs ∧ r.1 = v ∧ (r.2.2.1 : Int) = (wAt B v).1 ∧ (r.2.2.2 : Int) ≤ (wAt B r.2.1).1
theorem WB.sub {rs rs' : List Run} {n h t : Nat} {B : List (Int × Option Run)} (w : WB rs n h t B) (e : ∀ r, r ∈ rs ↔ r ∈ rs') : WB rs' n h t B :=
  ⟨w.len, w.low, fun v u hv => (w.iff v u hv).trans ⟨fun x => x.sub fun r hr => (e r).1 hr, fun x => x.sub fun r hr => (e r).2 hr⟩, w.own, fun v hv hn h0 => by
    obtain ⟨r, h1, h2, h3⟩ := w.via v hv hn h0; exact ⟨r, h1, (e r).1 h2, h3⟩⟩
theorem WB.put {pre : List Run} {n h t : Nat} {B : List (Int × Option Run)} {r : Run} (w : WB pre n h t B) (hp : ∀ q ∈ pre, q.2.2.1 < q.2.2.2) (hs : r.1 < n) (hg : r.2.1 < n) (h1 : r.2.2.1 < r.2.2.2) (h2 : ∀ q ∈ pre, r.2.2.2 ≤ q.2.2.2)
    (c1 : (r.2.2.2 : Int) ≤ (wAt B r.2.1).1) (c2 : (wAt B r.1).1 < r.2.2.1) : WB (pre ++ [r]) n h t (B.set r.1 ((r.2.2.1 : Int), some r)) := by
  have hl : r.1 < B.length := by rw [w.len]; exact hs
  have hh := (w.iff r.2.1 r.2.2.2 hg).1 c1
  have nh : r.1 ≠ h := fun z => by
    have := hh.le_t hp
    rw [z, w.own] at c2
    have c2 : (t : Int) < r.2.2.1 := c2
    omega
  have ng : r.2.1 ≠ r.1 := fun z => by rw [z] at c1; omega
  refine ⟨by rw [List.length_set]; exact w.len, fun v => ?_, fun v u hv => ?_, ?_, fun v hv hn h0 => ?_⟩
  · rw [wAt_set hl]; split
    · show -1 ≤ (r.2.2.1 : Int); omega
    · exact w.low v
  · rw [wAt_set hl, hears_snoc h1 h2, ← w.iff v u hv]
    split
    · rename_i e
      subst e
      show (u : Int) ≤ (r.2.2.1 : Int) ↔ _
      constructor
      · intro z; exact .inr ⟨hh, rfl, by omega⟩
      · rintro (z | ⟨_, _, z⟩) <;> omega
    · rename_i e
      constructor
      · exact .inl
      · rintro (z | ⟨_, z, _⟩)
        · exact z
        · exact absurd z e
  · rw [wAt_set hl, if_neg (fun z => nh z.symm)]; exact w.own
  · rw [wAt_set hl] at h0 ⊢
    by_cases e : v = r.1
    · rw [if_pos e]
      refine ⟨r, rfl, List.mem_append_right _ (List.mem_singleton.2 rfl), e.symm, rfl, ?_⟩
      rw [wAt_set hl, if_neg ng]; exact c1
    · rw [if_neg e] at h0 ⊢
      obtain ⟨q, q1, q2, q3, q4, q5⟩ := w.via v hv hn h0
      refine ⟨q, q1, List.mem_append_left _ q2, q3, q4, ?_⟩
      rw [wAt_set hl]
      split
      · rename_i z; rw [z] at q5; show (q.2.2.2 : Int) ≤ (r.2.2.1 : Int); omega
      · exact q5
theorem WB.skip {pre : List Run} {n h t : Nat} {B : List (Int × Option Run)} {r : Run} (w : WB pre n h t B) (hs : r.1 < n) (hg : r.2.1 < n) (h1 : r.2.2.1 < r.2.2.2) (h2 : ∀ q ∈ pre, r.2.2.2 ≤ q.2.2.2)
    (c : (r.2.2.2 : Int) ≤ (wAt B r.2.1).1 → (r.2.2.1 : Int) ≤ (wAt B r.1).1) : WB (pre ++ [r]) n h t B := by
  refine ⟨w.len, w.low, fun v u hv => ?_, w.own, fun v hv hn h0 => ?_⟩
  · rw [hears_snoc h1 h2, ← w.iff v u hv]
    constructor
    · exact .inl
    · rintro (z | ⟨z1, rfl, z2⟩)
      · exact z
      · have := c ((w.iff _ _ hg).2 z1); omega
  · obtain ⟨q, q1, q2, q3⟩ := w.via v hv hn h0
    exact ⟨q, q1, List.mem_append_left _ q2, q3⟩
theorem come_ok (r : Run) : φ_P_come_of [runD r] = .ok .fz (.int r.2.2.2) := by
  have r3 : idxD (runD r) (.int 3) = some (.fz, .int r.2.2.2) := by simp [runD]
  refine run_el (φ_P_come_of [runD r]) rfl ?_
  simp (disch := first | omega | rfl) [ev0, g_P_come_of, r3]
theorem runs_sorted {rs : List Run} (nd : rs.Nodup) (hn : rs.length ≤ 5000) : ∃ rs' : List Run, rs'.Perm rs ∧ rs'.Pairwise (fun a b => b.2.2.2 ≤ a.2.2.2) ∧ sortKD φ_P_come_of true (rs.map runD) = .ok .ow (.lst (rs'.map runD)) := by
  obtain ⟨l, h1, h2, h3⟩ := sortKD_ok (0, 0, 0, 0) (φ := φ_P_come_of) (enc := runD) (key := fun r => (r.2.2.2 : Int)) (l := rs) (fun r _ => come_ok r) (keysL_runs rs) (nodup_map_inj (fun _ _ => keyR_inj) nd) (by omega)
  exact ⟨l, h1, h2.imp fun h => by omega, h3⟩
theorem bst_at {B : List (Int × Option Run)} {v : Nat} (h : v < B.length) : atI (B.map bstD) (v : Int) = some (bstD (wAt B v)) := atI_of (by simp [wAt, h])
theorem bst_0 (x : Int × Option Run) : idxD (bstD x) (.int 0) = some (.fz, .int x.1) := by simp [bstD]
section
variable {n h t last : Nat} {ps : List Path} {rs : List Run} {ss : List Sign}
noncomputable abbrev evWb (n : Nat) (ps : List Path) (last : Nat) (rs : List Run) (ss : List Sign) (h t : Nat) (B : List (Int × Option Run)) (l : Ev) : Ev := some (.fz, netD n ps) :: some (.fz, taleD last rs ss) :: some (.fz, spotD h t) :: some (.ow, .lst (B.map bstD)) :: l
noncomputable def InvWb (n : Nat) (ps : List Path) (last : Nat) (rs : List Run) (ss : List Sign) (h t : Nat) (all xs : List Run) (ev : Ev) : Prop := ∃ B pre x5 x6 x7 x8, ev = evWb n ps last rs ss h t B [x5, x6, x7, x8] ∧ all = pre ++ xs ∧ WB pre n h t B
theorem walk_ok (hn : 1 ≤ n) (h8 : n ≤ 8) (ht : t ≤ last) (hh : h < n) (hr : ∀ r ∈ rs, r.1 < n ∧ r.2.1 < n ∧ r.2.2.1 < r.2.2.2 ∧ r.2.2.2 ≤ last) (nd : rs.Nodup) (hz : rs.length ≤ 5000) :
    ∃ B, WB rs n h t B ∧ φ_P_walk_back [netD n ps, taleD last rs ss, spotD h t] = .ok .ow (.lst (B.map bstD)) := by
  obtain ⟨all, hp, hpw, hsort⟩ := runs_sorted nd hz
  have hm : ∀ r, r ∈ all ↔ r ∈ rs := fun r => hp.mem_iff
  refine run_el (φ_P_walk_back [netD n ps, taleD last rs ss, spotD h t]) rfl ?_
  have e0 : idxD (netD n ps) (.int 0) = some (.fz, .int n) := by simp [netD]
  have e1 : idxD (taleD last rs ss) (.int 1) = some (.fz, .lst (rs.map runD)) := by simp [taleD]
  have e2 : idxD (spotD h t) (.int 0) = some (.fz, .int h) := by simp [spotD]
  have e3 : idxD (spotD h t) (.int 1) = some (.fz, .int t) := by simp [spotD]
  have em : mulD (.lst [.tup [.int (-1), .non]]) (.int n) = some (.ow, .lst ((List.replicate n ((-1 : Int), (none : Option Run))).map bstD)) := by
    rw [mulD_lst (by simp [LIM]; omega)]
    simp [bstD, oRunD]
  have ei := ixN_of (n := n) (i := h) hh
  simp (disch := first | omega | rfl) [ev0, g_P_walk_back, e0, em, e2, e3, ei, e1, hsort]
  have W0 : WB [] n h t ((List.replicate n ((-1 : Int), (none : Option Run))).set h ((t : Int), none)) := by
    have hl : h < (List.replicate n ((-1 : Int), (none : Option Run))).length := by simpa using hh
    have r0 : ∀ v, wAt (List.replicate n ((-1 : Int), (none : Option Run))) v = (-1, none) := fun v => by
      unfold wAt
      rw [List.getElem?_replicate]
      split <;> rfl
    refine ⟨by simp, fun v => ?_, fun v u hv => ?_, ?_, fun v hv hn h0 => ?_⟩
    · rw [wAt_set hl, r0]; split
      · show -1 ≤ (t : Int); omega
      · exact Int.le_refl _
    · rw [wAt_set hl, r0]
      split
      · rename_i e
        subst e
        show (u : Int) ≤ t ↔ _
        exact ⟨fun z => .self (by omega), fun z => by have := z.le_t (by simp); omega⟩
      · rename_i e
        show (u : Int) ≤ -1 ↔ _
        refine ⟨fun z => by omega, fun z => ?_⟩
        cases z with
        | self _ => exact absurd rfl e
        | run h1 _ _ => simp at h1
    · rw [wAt_set hl, if_pos rfl]
    · rw [wAt_set hl, r0, if_neg hn] at h0
      have h0 : (0 : Int) ≤ -1 := h0
      omega
  refine wp_forM (InvWb n ps last rs ss h t all) ?_ ?_ ⟨_, [], none, none, none, none, by simp [List.map_set, bstD, oRunD], rfl, W0⟩
  · rintro r xs _ - ⟨B, pre, x5, x6, x7, x8, rfl, ha, W⟩
    have hmr : r ∈ rs := (hm r).1 (by rw [ha]; simp)
    obtain ⟨h1, h2, h3, h4⟩ := hr r hmr
    have hpre : ∀ q ∈ pre, q.2.2.1 < q.2.2.2 := fun q hq => (hr q ((hm q).1 (by rw [ha]; simp [hq]))).2.2.1
    have hle : ∀ q ∈ pre, r.2.2.2 ≤ q.2.2.2 := fun q hq => by
      rw [ha] at hpw
      exact (List.pairwise_append.1 hpw).2.2 q hq r (by simp)
    have a1 := bst_at (B := B) (v := r.1) (by rw [W.len]; exact h1)
    have a2 := bst_at (B := B) (v := r.2.1) (by rw [W.len]; exact h2)
    have ei := ixN_of (n := n) (i := r.1) h1
    refine ⟨_, rfl, ?_⟩
    simp (disch := first | omega | rfl) [g_P_walk_back_b1, a1, a2, bst_0]
    refine wp_if1 (fun c => ?_) fun c => ?_
    · simp at c
      simp (disch := first | omega | rfl) [W.len, ei]
      exact ⟨B.set r.1 ((r.2.2.1 : Int), some r), pre ++ [r], some (.fz, .int r.1), some (.fz, .int r.2.1), some (.fz, .int r.2.2.1), some (.fz, .int r.2.2.2), by simp [List.map_set, bstD, oRunD, runD], by simp [ha], W.put hpre h1 h2 h3 hle c.1 (by omega)⟩
    · simp at c
      simp (disch := first | omega | rfl) []
      exact ⟨B, pre ++ [r], _, _, _, _, rfl, by simp [ha], W.skip h1 h2 h3 hle fun z => by have := c z; omega⟩
  · rintro _ ⟨B, pre, x5, x6, x7, x8, rfl, ha, W⟩
    rw [List.append_nil] at ha
    subst ha
    simp (disch := first | omega | rfl) []
    exact ⟨B, W.sub hm, rfl⟩
end
theorem WB.ends {rs : List Run} {n h t : Nat} {B : List (Int × Option Run)} (w : WB rs n h t B) : EndsOk rs n h t (B.map (·.1)) := by
  have e : ∀ v, eAt (B.map (·.1)) v = (wAt B v).1 := fun v => by
    unfold eAt wAt
    rw [List.getElem?_map]
    cases B[v]? <;> rfl
  exact ⟨by simp [w.len], fun v => by rw [e]; exact w.low v, fun v u hv => by rw [e]; exact w.iff v u hv⟩
theorem heard_ok {n h t last : Nat} {ps : List Path} {rs : List Run} {ss : List Sign} (h1 : 1 ≤ n) (h8 : n ≤ 8) (hl : last ≤ 60) (ht : t ≤ last) (hh : h < n) (hr : ∀ r ∈ rs, r.1 < n ∧ r.2.1 < n ∧ r.2.2.1 < r.2.2.2 ∧ r.2.2.2 ≤ last) (nd : (rs.map rkey).Nodup) (hn : rs.length ≤ 5000) :
    ∃ E, EndsOk rs n h t E ∧ φ_P_heard_by [netD n ps, taleD last rs ss, spotD h t] = .ok .ow (.lst (E.map D.int)) := by
  obtain ⟨B, w, hw⟩ := walk_ok (ps := ps) (ss := ss) h1 h8 ht hh hr (rkey_nd nd) hn
  refine ⟨B.map (·.1), w.ends, ?_⟩
  have hc := compO_map (b := bName 0) (e := eOp idxD (varR 0) (conR (.int 0))) (ev := [none]) (enc := bstD) (l := B) (fun x => .int x.1) (by rw [w.len]; simp [LIM]; omega) (fun x _ => by
    refine ⟨_, rfl, .fz, by simp, ?_⟩
    simp (disch := first | omega | rfl) [bst_0])
  refine run_el (φ_P_heard_by [netD n ps, taleD last rs ss, spotD h t]) rfl ?_
  simp (disch := first | omega | rfl) [ev0, g_P_heard_by, hw, hc]

noncomputable def keyS (x : Sign) : List Key := [.inl (x.1 : Int), .inl (x.2.1 : Int), .inr x.2.2]
theorem keyS_inj {x y : Sign} (h : keyS x = keyS y) : x = y := by
  obtain ⟨a, b, c⟩ := x
  obtain ⟨a', b', c'⟩ := y
  simp [keyS] at h
  obtain ⟨h1, h2, h3⟩ := h
  subst h3
  simp only [Prod.mk.injEq, and_true]
  omega
theorem keysL_signs : ∀ ss : List Sign, keysL (ss.map signD) = some (ss.map keyS)
  | [] => rfl
  | r :: rs => by
    show (keysD [.int r.1, .int r.2.1, .str r.2.2]).bind (fun k => (keysL (rs.map signD)).map (k :: ·)) = _
    rw [keysL_signs rs]; rfl
noncomputable def srtR (l : List Run) : List Run := srtA (0, 0, 0, 0) keyR l
noncomputable def srtS (l : List Sign) : List Sign := srtA (0, 0, cA) keyS l
theorem srtR_perm {l : List Run} : (srtR l).Perm l := srtA_perm
theorem srtS_perm {l : List Sign} : (srtS l).Perm l := srtA_perm
theorem sort_runs {l : List Run} (nd : l.Nodup) (hn : l.length ≤ 5000) : sortTD (l.map runD) = .ok .ow (.lst ((srtR l).map runD)) :=
  sortTD_ok _ (keysL_runs l) (nodup_map_inj (fun _ _ => keyR_inj) nd) (okSh_of (sh := [true, true, true, true]) rfl (fun _ => rfl) l) (by omega)
theorem sort_signs {l : List Sign} (nd : l.Nodup) (hn : l.length ≤ 5000) : sortTD (l.map signD) = .ok .ow (.lst ((srtS l).map signD)) :=
  sortTD_ok _ (keysL_signs l) (nodup_map_inj (fun _ _ => keyS_inj) nd) (okSh_of (sh := [true, true, false]) rfl (fun _ => rfl) l) (by omega)
noncomputable def hR (E : List Int) (r : Run) : Bool := decide ((r.2.2.2 : Int) ≤ eAt E r.2.1)
noncomputable def hS (E : List Int) (x : Sign) : Bool := decide ((x.2.1 : Int) ≤ eAt E x.1)
noncomputable def viewD (h t : Nat) (R : List Run) (S : List Sign) : D := .tup [spotD h t, .lst (R.map runD), .lst (S.map signD)]
noncomputable def viewOf (h t : Nat) (E : List Int) (rs : List Run) (ss : List Sign) : D := viewD h t (srtR (rs.filter (hR E))) (srtS (ss.filter (hS E)))
theorem nodup_filter {α : Type} {p : α → Bool} {l : List α} (h : l.Nodup) : (l.filter p).Nodup := List.Pairwise.sublist List.filter_sublist h
theorem comp_runs {E : List Int} {rs : List Run} {n : Nat} (hl : E.length = n) (hr : ∀ r ∈ rs, r.2.1 < n) (hn : rs.length ≤ 5000) :
    compO (bName 1) (eOp leD (eOp idxD (varR 1) (conR (.int 3))) (eOp idxD (varR 0) (eOp idxD (varR 1) (conR (.int 1))))) (varR 1) [some (.fz, .lst (E.map D.int)), none] (.ok (rs.map runD)) = .ok .ow (.lst ((rs.filter (hR E)).map runD)) :=
  compO_fm (hR E) runD (by simp [LIM]; omega) fun r hm => by
    have r1 : idxD (runD r) (.int 1) = some (.fz, .int r.2.1) := by simp [runD]
    have r3 : idxD (runD r) (.int 3) = some (.fz, .int r.2.2.2) := by simp [runD]
    have a1 := ints_at (E := E) (v := r.2.1) (by rw [hl]; exact hr r hm)
    refine ⟨_, rfl, ⟨.fz, ?_⟩, fun _ => ⟨.fz, by simp, ?_⟩⟩
    · simp (disch := first | omega | rfl) [r1, r3, a1, hR]
    · simp (disch := first | omega | rfl) []
theorem comp_signs {E : List Int} {ss : List Sign} {n : Nat} (hl : E.length = n) (hs : ∀ x ∈ ss, x.1 < n) (hn : ss.length ≤ 5000) :
    compO (bName 1) (eOp leD (eOp idxD (varR 1) (conR (.int 1))) (eOp idxD (varR 0) (eOp idxD (varR 1) (conR (.int 0))))) (varR 1) [some (.fz, .lst (E.map D.int)), none] (.ok (ss.map signD)) = .ok .ow (.lst ((ss.filter (hS E)).map signD)) :=
  compO_fm (hS E) signD (by simp [LIM]; omega) fun x hm => by
    have r0 : idxD (signD x) (.int 0) = some (.fz, .int x.1) := by simp [signD]
    have r1 : idxD (signD x) (.int 1) = some (.fz, .int x.2.1) := by simp [signD]
    have a1 := ints_at (E := E) (v := x.1) (by rw [hl]; exact hs x hm)
    refine ⟨_, rfl, ⟨.fz, ?_⟩, fun _ => ⟨.fz, by simp, ?_⟩⟩
    · simp (disch := first | omega | rfl) [r0, r1, a1, hS]
    · simp (disch := first | omega | rfl) []
section
variable {n h t last : Nat} {ps : List Path} {rs : List Run} {ss : List Sign} {E : List Int}
structure TaleOk (n last : Nat) (rs : List Run) (ss : List Sign) : Prop where
  all : ∀ r ∈ rs, r.1 < n ∧ r.2.1 < n ∧ r.2.2.1 < r.2.2.2 ∧ r.2.2.2 ≤ last
  nd : (rs.map rkey).Nodup
  len : rs.length ≤ 5000
  sh : ∀ x ∈ ss, x.1 < n
  snd : ss.Nodup
  slen : ss.length ≤ 100
end
section
variable {n h t last : Nat} {ps : List Path} {rs : List Run} {ss : List Sign} {E : List Int}
theorem seen_ok (h1 : 1 ≤ n) (h8 : n ≤ 8) (hl : last ≤ 60) (ht : t ≤ last) (hh : h < n) (tk : TaleOk n last rs ss) (eo : EndsOk rs n h t E) :
    φ_P_seen [netD n ps, taleD last rs ss, spotD h t] = .ok .fz (viewOf h t E rs ss) := by
  obtain ⟨E', eo', hw⟩ := heard_ok (ps := ps) (ss := ss) h1 h8 hl ht hh tk.all tk.nd tk.len
  obtain rfl := eo'.uniq eo
  have c1 := comp_runs (rs := rs) eo'.len (fun r hr => (tk.all r hr).2.1) (by have := tk.len; omega)
  have c2 := comp_signs (ss := ss) eo'.len tk.sh (by have := tk.slen; omega)
  have l1 : (rs.filter (hR E')).length ≤ 5000 := Nat.le_trans (List.length_filter_le ..) (by have := tk.len; omega)
  have l2 : (ss.filter (hS E')).length ≤ 5000 := Nat.le_trans (List.length_filter_le ..) (by have := tk.slen; omega)
  have s1 := sort_runs (nodup_filter (p := hR E') (rkey_nd tk.nd)) l1
  have s2 := sort_signs (nodup_filter (p := hS E') tk.snd) l2
  refine run_el (φ_P_seen [netD n ps, taleD last rs ss, spotD h t]) rfl ?_
  simp (disch := first | omega | rfl) [ev0, g_P_seen, hw, tale_runs, tale_signs, c1, c2, s1, s2]
  rfl
end
theorem lseen_ok {n h t last : Nat} {ps : List Path} {rs : List Run} {ss : List Sign} (h1 : 1 ≤ n) (h8 : n ≤ 8) (hl : last ≤ 60) (ht : t ≤ last) (hh : h < n) (tk : TaleOk n last rs ss) :
    ∃ E, EndsOk rs n h t E ∧ φ_L_seen [netD n ps, taleD last rs ss, spotD h t] = .ok .fz (viewOf h t E rs ss) := by
  obtain ⟨E, eo, hw⟩ := ends_ok (ps := ps) (ss := ss) h1 h8 hl ht hh tk.all
  refine ⟨E, eo, ?_⟩
  have c1 := comp_runs (rs := rs) eo.len (fun r hr => (tk.all r hr).2.1) (by have := tk.len; omega)
  have c2 := comp_signs (ss := ss) eo.len tk.sh (by have := tk.slen; omega)
  have l1 : (rs.filter (hR E)).length ≤ 5000 := Nat.le_trans (List.length_filter_le ..) (by have := tk.len; omega)
  have l2 : (ss.filter (hS E)).length ≤ 5000 := Nat.le_trans (List.length_filter_le ..) (by have := tk.slen; omega)
  have s1 := sort_runs (nodup_filter (p := hR E) (rkey_nd tk.nd)) l1
  have s2 := sort_signs (nodup_filter (p := hS E) tk.snd) l2
  refine run_el (φ_L_seen [netD n ps, taleD last rs ss, spotD h t]) rfl ?_
  simp (disch := first | omega | rfl) [ev0, g_L_seen, hw, tale_runs, tale_signs, c1, c2, s1, s2]
  rfl

noncomputable def key3D (r : Run) : D := .tup [.int r.1, .int r.2.1, .int r.2.2.1]
theorem key3D_mem {r : Run} {B : List Run} : key3D r ∈ B.map key3D ↔ rkey r ∈ B.map rkey := by
  simp only [List.mem_map]
  constructor
  · rintro ⟨q, h1, h2⟩
    refine ⟨q, h1, ?_⟩
    simp [key3D] at h2
    simp [rkey]; omega
  · rintro ⟨q, h1, h2⟩
    refine ⟨q, h1, ?_⟩
    simp [rkey] at h2
    simp [key3D]; omega
theorem key3D_pl (B : List Run) : plL 59 (B.map key3D) = true := plL_iff.2 fun d hd => by
  obtain ⟨x, hx, rfl⟩ := List.mem_map.1 hd
  simp [key3D, pl, plL]
theorem inj_map {α β : Type} {f : α → β} : ∀ {l : List α}, (l.map f).Nodup → ∀ x ∈ l, ∀ y ∈ l, f x = f y → x = y
  | [], _, _, hx, _, _, _ => by simp at hx
  | a :: l, h, x, hx, y, hy, e => by
    rw [List.map_cons, List.nodup_cons] at h
    rcases List.mem_cons.1 hx with h1 | h1 <;> rcases List.mem_cons.1 hy with h2 | h2
    · rw [h1, h2]
    · exact absurd (List.mem_map.2 ⟨y, h2, by rw [← e, h1]⟩) h.1
    · exact absurd (List.mem_map.2 ⟨x, h1, by rw [e, h2]⟩) h.1
    · exact inj_map h.2 x h1 y h2 e
theorem nodup_ends {n : Nat} {ps : List Path} (ok : NetOk n ps) {s g : Nat} {o o' : Option Int} (h : (s, g, o) ∈ ps) (h' : (s, g, o') ∈ ps) : o = o' := by
  have := inj_map ok.nd _ h _ h' rfl
  simp only [Prod.mk.injEq, true_and] at this
  exact this

section
variable {n h t last l : Nat} {ps : List Path} {rs : List Run} {ss : List Sign} {E : List Int} {p : Path}
theorem later (ok : NetOk n ps) (gt : GoodT n ps last rs ss) (eo : EndsOk rs n h t E) (ht : t ≤ last) (hp : p ∈ ps) {m : Int} (o : p.2.2 = some m) (hnk : (p.1, p.2.1, l) ∉ (rs.filter (hR E)).map rkey) : eAt E p.2.1 < (l : Int) + m := by
  by_cases c : (l : Int) + m ≤ last
  · obtain ⟨c', hc'⟩ := gt.due p.1 p.2.1 m l (by rw [← o]; exact hp) c
    obtain ⟨o', ho', hm'⟩ := gt.runs.path _ hc'
    have e : o' = some m := by
      have h1 : (p.1, p.2.1, some m) ∈ ps := by rw [← o]; exact hp
      have h2 := nodup_ends ok ho' h1
      exact h2
    have := hm' m e
    by_cases d : (c' : Int) ≤ eAt E p.2.1
    · exact absurd (List.mem_map.2 ⟨_, List.mem_filter.2 ⟨hc', by simp [hR]; exact d⟩, rfl⟩) hnk
    · have : ((p.1, p.2.1, l, c') : Run).2.2.2 = c' := rfl
      simp at this hm'
      have := hm' m e
      omega
  · have := eo.low p.2.1
    by_cases z : eAt E p.2.1 ≤ last
    · omega
    · have h1 := (eo.iff p.2.1 (eAt E p.2.1).toNat (ok.g p hp)).1 (by omega)
      have := h1.last gt.runs.turn ht
      omega
end
structure NOk (E : List Int) (ps : List Path) (last : Nat) (B new : List Run) : Prop where
  path : ∀ r ∈ new, ∃ o, (r.1, r.2.1, o) ∈ ps ∧ ∀ m, o = some m → (r.2.2.2 : Int) ≤ r.2.2.1 + m
  turn : ∀ r ∈ new, r.2.2.1 < r.2.2.2 ∧ r.2.2.2 ≤ last
  far : ∀ r ∈ new, eAt E r.2.1 < r.2.2.2
  nd : (new.map rkey).Nodup
  ap : ∀ r ∈ new, rkey r ∉ B.map rkey
noncomputable def InvO1 (ns : List Int) (net tale spot : D) (E : List Int) (ps : List Path) (last sh : Nat) (B : List Run) (ps1 : List Path) (p : Path) (xs : List Nat) (ev : Ev) : Prop := ∃ new k x12 x13 x14 x15, ev = [some (.fz, .scr (ns.map D.int)), some (.fz, net), some (.fz, tale), some (.fz, spot), some (.fz, .int sh), some (.fz, .lst (E.map D.int)), some (.ow, .lst ((B ++ new).map runD)), some (.ow, .lst (B.map key3D)), some (.fz, .int (k : Nat)), some (.fz, .int p.1), some (.fz, .int p.2.1), some (.fz, optD p.2.2), x12, x13, x14, x15, none, none] ∧
  NOk E ps last B new ∧ DueB ps1 last (B ++ new) ∧ ∃ l, xs = List.range' l (last - l) ∧ l ≤ last ∧ KeysB ps1 p l new ∧ k = sh + ps1.length * last + l ∧ new.length + sh ≤ k ∧ ∀ m (l' : Nat), p.2.2 = some m → l' < l → (l' : Int) + m ≤ last → ∃ c, (p.1, p.2.1, l', c) ∈ B ++ new
noncomputable def InvO2 (ns : List Int) (net tale spot : D) (E : List Int) (ps : List Path) (last sh : Nat) (B : List Run) (xs : List Path) (ev : Ev) : Prop := ∃ new k ps1 x9 x10 x11 x12 x13 x14 x15, ev = [some (.fz, .scr (ns.map D.int)), some (.fz, net), some (.fz, tale), some (.fz, spot), some (.fz, .int sh), some (.fz, .lst (E.map D.int)), some (.ow, .lst ((B ++ new).map runD)), some (.ow, .lst (B.map key3D)), some (.fz, .int (k : Nat)), x9, x10, x11, x12, x13, x14, x15, none, none] ∧
  ps = ps1 ++ xs ∧ NOk E ps last B new ∧ DueB ps1 last (B ++ new) ∧ (∀ r ∈ new, (r.1, r.2.1) ∈ ps1.map ends) ∧ k = sh + ps1.length * last ∧ new.length + sh ≤ k
section
variable {ns : List Int} {n h t last sh : Nat} {ps ps1 : List Path} {rs B new : List Run} {ss : List Sign} {E : List Int} {p : Path} {net spot : D} {xs : List Nat} {k l c : Nat} {hh : Ev → Fl} {Q : Fl → Prop} {x13 x14 x15 : Option (Kd × D)}
theorem other_j1 (hp : p ∈ ps) (hnot : ends p ∉ ps1.map ends) (hl : l < last) (hk : k = sh + ps1.length * last + l + 1) (hk2 : k ≤ 9000) (no : NOk E ps last B new) (du : DueB ps1 last (B ++ new)) (kb : KeysB ps1 p l new) (hx : xs = List.range' (l + 1) (last - (l + 1))) (hlen : new.length + sh < k) (hB : B.length ≤ 1600)
    (hd : ∀ m (l' : Nat), p.2.2 = some m → l' < l → (l' : Int) + m ≤ last → ∃ c, (p.1, p.2.1, l', c) ∈ B ++ new) (hnk : (p.1, p.2.1, l) ∉ B.map rkey) (hlc : l < c) (hE : eAt E p.2.1 < c) (hm : ∀ m, p.2.2 = some m → (c : Int) ≤ l + m) :
    Wp (g_L_other_j1 [some (.fz, .scr (ns.map D.int)), some (.fz, net), some (.fz, taleD last rs ss), some (.fz, spot), some (.fz, .int sh), some (.fz, .lst (E.map D.int)), some (.ow, .lst ((B ++ new).map runD)), some (.ow, .lst (B.map key3D)), some (.fz, .int (k : Nat)), some (.fz, .int p.1), some (.fz, .int p.2.1), some (.fz, optD p.2.2), some (.fz, .int l), x13, x14, some (.fz, .int c), none, none]) (loopQ (InvO1 ns net (taleD last rs ss) spot E ps last sh B ps1 p xs) hh Q) := by
  have kb' : ∀ r ∈ new, (r.1, r.2.1) ∈ ps1.map ends ∨ ((r.1, r.2.1) = ends p ∧ r.2.2.1 < l + 1) := fun r hr => by
    rcases kb r hr with z | z
    · exact .inl z
    · exact .inr ⟨z.1, by (clear hE hlc hB hlen hk2 hk hl; omega)⟩
  generalize hA : B ++ new = A at *
  have hL : A.length < LIM := by rw [← hA, List.length_append]; simp only [LIM]; (clear hE hlc hk hl; omega)
  simp (disch := first | omega | rfl) [g_L_other_j1, tale_last]
  refine wp_if1 ?_ ?_ <;> intro hq <;> simp (disch := first | omega | rfl) [hL]
  · simp at hq
    have e1 : A.map runD ++ [D.tup [.int p.1, .int p.2.1, .int l, .int c]] = (B ++ (new ++ [(p.1, p.2.1, l, c)])).map runD := by rw [← List.append_assoc, hA]; simp [runD]
    rw [e1]
    have mA : ∀ r, r ∈ A → r ∈ B ++ (new ++ [(p.1, p.2.1, l, c)]) := fun r hr => by rw [← List.append_assoc, hA]; simp [hr]
    refine ⟨new ++ [(p.1, p.2.1, l, c)], k, _, _, _, _, rfl, ⟨fun r hr => ?_, fun r hr => ?_, fun r hr => ?_, ?_, fun r hr => ?_⟩, fun s g m l' h1 h2 => ?_, l + 1, hx, by (clear hq hL hE hlc hB hlen hk2 hk; omega), fun r hr => ?_, by (clear hq hL hE hlc hB hlen hk2 hl; omega), by simp; (clear hq hL hE hlc hB hk2 hk hl; omega), fun m l' e1 h2 h3 => ?_⟩
    · rcases List.mem_append.1 hr with hr | hr
      · exact no.path r hr
      · simp at hr; subst hr; exact ⟨p.2.2, hp, hm⟩
    · rcases List.mem_append.1 hr with hr | hr
      · exact no.turn r hr
      · simp at hr; subst hr; exact ⟨hlc, by show c ≤ last; (clear hL hE hlc hB hlen hk2 hk hl; omega)⟩
    · rcases List.mem_append.1 hr with hr | hr
      · exact no.far r hr
      · simp at hr; subst hr; exact hE
    · rw [List.map_append, List.nodup_append]
      refine ⟨no.nd, by simp, fun a ha b hb => ?_⟩
      simp at hb; subst hb
      obtain ⟨r, hr, rfl⟩ := List.mem_map.1 ha
      intro e
      simp [rkey] at e
      rcases kb r hr with z | z
      · refine hnot ?_
        have : (r.1, r.2.1) = ends p := by simp [ends, e.1, e.2.1]
        rw [← this]; exact z
      · (clear hq hL hE hlc hB hlen hk2 hk hl; omega)
    · rcases List.mem_append.1 hr with hr | hr
      · exact no.ap r hr
      · simp at hr; subst hr; exact hnk
    · obtain ⟨c', hc'⟩ := du s g m l' h1 h2
      exact ⟨c', mA _ hc'⟩
    · rcases List.mem_append.1 hr with hr | hr
      · exact kb' r hr
      · simp at hr; subst hr; exact .inr ⟨rfl, by show l < l + 1; (clear hq hL hE hlc hB hlen hk2 hk hl; omega)⟩
    · by_cases e : l' = l
      · subst e; exact ⟨c, by simp⟩
      · obtain ⟨c', hc'⟩ := hd m l' e1 (by (clear h3 hq hL hE hlc hB hlen hk2 hk hl; omega)) h3
        exact ⟨c', mA _ hc'⟩
  · simp at hq
    subst hA
    refine ⟨new, k, _, _, _, _, rfl, no, du, l + 1, hx, by (clear hL hq hE hlc hB hlen hk2 hk; omega), kb', by (clear hL hq hE hlc hB hlen hk2 hl; omega), by (clear hL hq hE hlc hB hk2 hk hl; omega), fun m l' e1 h2 h3 => ?_⟩
    by_cases e : l' = l
    · subst e; have := hm m e1; (clear h2 hlc hk hl hL hE hB hlen hk2; omega)
    · exact hd m l' e1 (by (clear h3 hL hq hE hlc hB hlen hk2 hk hl; omega)) h3
theorem other_b1 (ok : NetOk n ps) (gt : GoodT n ps last rs ss) (eo : EndsOk rs n h t E) (ht : t ≤ last) (hBe : B = rs.filter (hR E)) (hp : p ∈ ps) (hnot : ends p ∉ ps1.map ends) (hl : l < last) (hk : k = sh + ps1.length * last + l) (hk2 : k + 1 ≤ 9000) (no : NOk E ps last B new) (du : DueB ps1 last (B ++ new)) (kb : KeysB ps1 p l new) (hx : xs = List.range' (l + 1) (last - (l + 1))) (hlen : new.length + sh ≤ k) (hB : B.length ≤ 1600)
    (hd : ∀ m (l' : Nat), p.2.2 = some m → l' < l → (l' : Int) + m ≤ last → ∃ c, (p.1, p.2.1, l', c) ∈ B ++ new) :
    Wp (g_L_other_b1 [some (.fz, .scr (ns.map D.int)), some (.fz, net), some (.fz, taleD last rs ss), some (.fz, spot), some (.fz, .int sh), some (.fz, .lst (E.map D.int)), some (.ow, .lst ((B ++ new).map runD)), some (.ow, .lst (B.map key3D)), some (.fz, .int (k : Nat)), some (.fz, .int p.1), some (.fz, .int p.2.1), some (.fz, optD p.2.2), some (.fz, .int l), x13, x14, x15, none, none]) (loopQ (InvO1 ns net (taleD last rs ss) spot E ps last sh B ps1 p xs) hh Q) := by
  have hck := cell_okI (ns := ns) (j := 3 + ((k : Int) + 1) % 60) (i := 3 + (k + 1) % 60) (by (clear hB hlen hk2 hk hl ht; omega))
  have hmk := mix_ok (cellF ns (3 + (k + 1) % 60)) ((k : Int) + 1) (by (clear hB hlen hk2 hk hl ht; omega)) (by (clear hB hlen hk hl ht; omega))
  have hnk := mix_nn (cellF ns (3 + (k + 1) % 60)) ((k : Int) + 1) (by (clear hB hlen hk2 hk hl ht; omega)) (by (clear hB hlen hk hl ht; omega))
  generalize mixF (cellF ns (3 + (k + 1) % 60)) ((k : Int) + 1) = nu at *
  have ek : (k : Int) + 1 = ((k + 1 : Nat) : Int) := by (clear hnk hB hlen hk2 hk hl ht; omega)
  have hg := ok.g p hp
  have ea := ints_at (E := E) (v := p.2.1) (by rw [eo.len]; exact hg)
  have low := eo.low p.2.1
  obtain ⟨f, ef, hf1, hf2⟩ : ∃ f : Nat, max (l : Int) (eAt E p.2.1) + 1 = f ∧ l < f ∧ eAt E p.2.1 < f := ⟨(max (l : Int) (eAt E p.2.1) + 1).toNat, by (clear low hg ek hnk hB hlen hk2 hk hl ht; omega), by (clear low hg ek hnk hB hlen hk2 hk hl ht; omega), by (clear low hg ek hnk hB hlen hk2 hk hl ht; omega)⟩
  have hin : inD (.tup [.int p.1, .int p.2.1, .int l]) (.lst (B.map key3D)) = some (.fz, .bl (decide ((p.1, p.2.1, l) ∈ B.map rkey))) := by
    rw [inD_pl rfl (by simp [pl, plL]) (plL_ups (key3D_pl B))]
    have := key3D_mem (r := (p.1, p.2.1, l, 0)) (B := B)
    simp only [key3D, rkey] at this
    simp only [this]
  have cont : ∀ (y13 y14 y15 : Option (Kd × D)), (∀ m, p.2.2 = some m → (l : Int) + m ≤ last → ∃ c, (p.1, p.2.1, l, c) ∈ B ++ new) → InvO1 ns net (taleD last rs ss) spot E ps last sh B ps1 p xs [some (.fz, .scr (ns.map D.int)), some (.fz, net), some (.fz, taleD last rs ss), some (.fz, spot), some (.fz, .int sh), some (.fz, .lst (E.map D.int)), some (.ow, .lst ((B ++ new).map runD)), some (.ow, .lst (B.map key3D)), some (.fz, .int ((k + 1 : Nat) : Int)), some (.fz, .int p.1), some (.fz, .int p.2.1), some (.fz, optD p.2.2), some (.fz, .int l), y13, y14, y15, none, none] := fun y13 y14 y15 hl' => by
    refine ⟨new, k + 1, _, _, _, _, rfl, no, du, l + 1, hx, by (clear hf2 hf1 ef low hg ek hnk hB hlen hk2 hk ht; omega), fun r hr => ?_, by (clear hf2 hf1 ef low hg ek hnk hB hlen hk2 hl ht; omega), by (clear hf2 hf1 ef low hg ek hnk hB hk2 hk hl ht; omega), fun m l' e1 h2 h3 => ?_⟩
    · rcases kb r hr with z | z
      · exact .inl z
      · exact .inr ⟨z.1, by (clear hf2 hf1 ef low hg ek hnk hB hlen hk2 hk hl ht; omega)⟩
    · by_cases e : l' = l
      · subst e; exact hl' m e1 h3
      · exact hd m l' e1 (by (clear h3 hf2 hf1 ef low hg ek hnk hB hlen hk2 hk hl ht; omega)) h3
  generalize hA : B ++ new = A at *
  by_cases inB : (p.1, p.2.1, l) ∈ B.map rkey
  · have hin' : inD (.tup [.int p.1, .int p.2.1, .int l]) (.lst (B.map key3D)) = some (.fz, .bl true) := by rw [hin]; simp only [inB, decide_true]
    have fin := cont (some (.fz, .int nu)) (some (.fz, .int f)) x15 fun m _ _ => by
      obtain ⟨r, hr, e⟩ := List.mem_map.1 inB
      simp [rkey] at e
      refine ⟨r.2.2.2, ?_⟩
      rw [← hA, ← e.1, ← e.2.1, ← e.2.2]
      exact List.mem_append_left _ hr
    simp (disch := first | omega | rfl) [g_L_other_b1, hck, hmk, ea, ef, hin']
    rw [ek]
    exact fin
  · have hin' : inD (.tup [.int p.1, .int p.2.1, .int l]) (.lst (B.map key3D)) = some (.fz, .bl false) := by rw [hin]; simp only [inB, decide_false]
    cases o : p.2.2 with
    | none =>
      obtain ⟨c, ec, hc⟩ := emod_nat (nu / 3) (n := 3) (by decide)
      have ec : (f : Int) + nu / 3 % 3 = ((f + c : Nat) : Int) := by rw [show nu / 3 % 3 = (c : Int) from ec]; (clear hc ec hf2 hf1 ef low hg ek hnk hB hlen hk2 hk hl ht; omega)
      have fin := cont (some (.fz, .int nu)) (some (.fz, .int f)) x15 fun m e _ => by rw [o] at e; cases e
      rw [o] at fin
      simp (disch := first | omega | rfl) [g_L_other_b1, hck, hmk, ea, ef, hin', optD]
      refine wp_if ?_ ?_ <;> intro hq <;> simp (disch := first | omega | rfl) [g_L_other_j2]
      · rw [ek]; exact fin
      · rw [ec, ek]
        have := other_j1 (ns := ns) (sh := sh) (net := net) (spot := spot) (rs := rs) (ss := ss) (x13 := some (.fz, .int nu)) (x14 := some (.fz, .int f)) (hh := hh) (Q := Q) (k := k + 1) (c := f + c) hp hnot hl (by (clear ec hc hf2 hf1 ef low hg ek hnk hB hlen hk2 hl ht; omega)) (by (clear ec hc hf2 hf1 ef low hg ek hnk hB hlen hk hl ht; omega)) no (hA ▸ du) kb hx (by (clear ec hc hf2 hf1 ef low hg ek hnk hB hk2 hk hl ht; omega)) hB (hA ▸ hd) inB (by (clear ec hc hf2 hf1 low hg ek hnk hB hlen hk2 hk hl ht; omega)) (by (clear ec hc hf2 hf1 low hg ek hnk hB hlen hk2 hk hl ht; omega)) (by simp [o])
        rw [o, hA] at this
        exact this
    | some m =>
      have m1 := (ok.m p hp m o).1
      have lt := later (l := l) ok gt eo ht hp o (hBe ▸ inB)
      have hmin : (0 : Int) < min 3 ((l : Int) + m - f + 1) := by (clear hf2 hf1 low hg ek hnk hB hlen hk2 hk hl ht; omega)
      have e1 := Int.emod_nonneg (nu / 3) (b := min 3 ((l : Int) + m - f + 1)) (by (clear hmin hf2 hf1 low hg ek hnk hB hlen hk2 hk hl ht; omega))
      have e2 := Int.emod_lt_of_pos (nu / 3) hmin
      obtain ⟨c, ec, hc1, hc2⟩ : ∃ c : Nat, (f : Int) + nu / 3 % min 3 ((l : Int) + m - f + 1) = c ∧ f ≤ c ∧ (c : Int) ≤ l + m := by
        refine ⟨((f : Int) + nu / 3 % min 3 ((l : Int) + m - f + 1)).toNat, ?_, ?_, ?_⟩
        · generalize nu / 3 % min 3 ((l : Int) + m - f + 1) = z at *; (clear e2 hmin lt m1 hf2 hf1 ef low hg ek hnk hB hlen hk2 hk hl ht; omega)
        · generalize nu / 3 % min 3 ((l : Int) + m - f + 1) = z at *; (clear e2 hmin lt m1 hf2 hf1 ef low hg ek hnk hB hlen hk2 hk hl ht; omega)
        · generalize nu / 3 % min 3 ((l : Int) + m - f + 1) = z at *; (clear e1 hmin lt hf2 hf1 ef low hg ek hnk hB hlen hk2 hk hl ht; omega)
      have ne : ¬ min 3 ((l : Int) + m - f + 1) = 0 := by (clear hc2 hc1 ec e2 e1 hmin hf2 hf1 low hg ek hnk hB hlen hk2 hk hl ht; omega)
      simp (disch := first | omega | rfl) [g_L_other_b1, hck, hmk, ea, ef, hin', optD, g_L_other_j2, ec, ne]
      rw [ek]
      have := other_j1 (ns := ns) (sh := sh) (net := net) (spot := spot) (rs := rs) (ss := ss) (x13 := some (.fz, .int nu)) (x14 := some (.fz, .int f)) (hh := hh) (Q := Q) (k := k + 1) (c := c) hp hnot hl (by (clear ne hc2 hc1 ec e2 e1 hmin lt m1 hf2 hf1 ef low hg ek hnk hB hlen hk2 hl ht; omega)) (by (clear ne hc2 hc1 ec e2 e1 hmin lt m1 hf2 hf1 ef low hg ek hnk hB hlen hk hl ht; omega)) no (hA ▸ du) kb hx (by (clear ne hc2 hc1 ec e2 e1 hmin lt m1 hf2 hf1 ef low hg ek hnk hB hk2 hk hl ht; omega)) hB (hA ▸ hd) inB (by (clear ne hc2 hc1 e2 hmin lt m1 hf2 hf1 low hg ek hnk hB hlen hk2 hk hl ht; omega)) (by (clear ne hc2 hc1 e2 hmin lt m1 hf2 hf1 low hg ek hnk hB hlen hk2 hk hl ht; omega)) (by rintro m' e; rw [o] at e; cases e; (clear ne hc2 hc1 e1 hmin lt m1 hf2 hf1 ef low hg ek hnk hB hlen hk2 hk hl ht; omega))
      rw [o, hA] at this
      exact this
end
structure SNOk (n last : Nat) (E : List Int) (sn : List Sign) : Prop where
  h : ∀ x ∈ sn, x.1 < n
  t : ∀ x ∈ sn, x.2.1 ≤ last
  far : ∀ x ∈ sn, eAt E x.1 < x.2.1
  nm : ∀ x ∈ sn, nmOk x.2.2 = true
  nd : (sn.map (·.1)).Nodup
noncomputable def cAB : Str := Str.ofString "ab"
theorem pick3 (i : Int) (h0 : 0 ≤ i) (h1 : i < 3) : ∃ x : Str, nmOk x = true ∧ atI [D.str cA, D.str cB, D.str cAB] i = some (D.str x) := by
  have : i = 0 ∨ i = 1 ∨ i = 2 := by omega
  rcases this with rfl | rfl | rfl
  · exact ⟨cA, by decide +kernel, by simp⟩
  · exact ⟨cB, by decide +kernel, by simp⟩
  · exact ⟨cAB, by decide +kernel, by simp⟩
noncomputable def InvO3 (ns : List Int) (n : Nat) (net tale spot runs kept : D) (E : List Int) (last sh k : Nat) (S0 : List Sign) (xs : List Nat) (ev : Ev) : Prop := ∃ sn x9 x10 x11 x12 x13 x14 x15 x17 l, ev = [some (.fz, .scr (ns.map D.int)), some (.fz, net), some (.fz, tale), some (.fz, spot), some (.fz, .int sh), some (.fz, .lst (E.map D.int)), some (.ow, runs), some (.ow, kept), some (.fz, .int (k : Nat)), x9, x10, x11, x12, x13, x14, x15, some (.ow, .lst ((S0 ++ sn).map signD)), x17] ∧
  xs = List.range' l (n - l) ∧ l ≤ n ∧ SNOk n last E sn ∧ (∀ x ∈ sn, x.1 < l) ∧ sn.length ≤ l
noncomputable def OtherQ (n last : Nat) (E : List Int) (ps : List Path) (B : List Run) (S0 : List Sign) (x : R) : Prop := ∃ new sn, NOk E ps last B new ∧ DueB ps last (B ++ new) ∧ SNOk n last E sn ∧ new.length ≤ 1600 ∧ sn.length ≤ 8 ∧ x = .ok .fz (taleD last (B ++ new) (S0 ++ sn))
theorem other_ok {ns : List Int} {n h t last sh : Nat} {ps : List Path} {rs : List Run} {ss : List Sign} {E : List Int} (ok : NetOk n ps) (hps : ps.length ≤ 64) (gt : GoodT n ps last rs ss) (hlast : last ≤ 24) (hrs : rs.length ≤ 1600) (hss : ss.length ≤ 4) (hh : h < n) (ht : t ≤ last) (eo : EndsOk rs n h t E) (hsh : sh ≤ 1000) :
    OtherQ n last E ps (rs.filter (hR E)) (ss.filter (hS E)) (φ_L_other [.scr (ns.map D.int), netD n ps, taleD last rs ss, spotD h t, .int sh]) := by
  obtain ⟨E', eo', ee⟩ := ends_ok (ps := ps) (ss := ss) (h := h) (t := t) ok.n1 ok.n8 (by (clear hsh ht hh hss hrs hps; omega)) ht hh (gt.runs.all ok)
  obtain rfl := eo'.uniq eo
  have n8 := ok.n8
  have c1 := comp_runs (rs := rs) eo'.len (fun r hr => ((gt.runs.all ok) r hr).2.1) (by (clear n8 hsh ht hh hss hlast hps; omega))
  have c2 := comp_signs (ss := ss) eo'.len gt.signs.h (by (clear n8 hsh ht hh hrs hlast hps; omega))
  have bl := List.length_filter_le (hR E') rs
  have sl := List.length_filter_le (hS E') ss
  generalize hBe : rs.filter (hR E') = B at *
  generalize hS0 : ss.filter (hS E') = S0 at *
  have c3 := compO_map (b := bName 0) (e := eSl (varR 0) oNo (oSome (conR (.int 3)))) (ev := [none]) (enc := runD) (l := B) key3D (by simp [LIM]; (clear sl n8 hsh ht hh hss hlast hps; omega)) (fun r _ => by
    refine ⟨_, rfl, .fz, by simp, ?_⟩
    simp (disch := first | omega | rfl) [runD, key3D]
    rfl)
  have fl : flatL (B.map key3D) = true := flatL_of (fun x => by simp [key3D, flatD, flatL]) B
  refine run_el (φ_L_other [.scr (ns.map D.int), netD n ps, taleD last rs ss, spotD h t, .int sh]) rfl ?_
  simp (disch := first | omega | rfl) [ev0, g_L_other, ee, tale_runs, c1, c3, fl, net_ps]
  refine wp_forM (InvO2 ns (netD n ps) (taleD last rs ss) (spotD h t) E' ps last sh B) ?_ ?_ ⟨[], sh, [], none, none, none, none, none, none, none, by simp, rfl, ⟨by simp, by simp, by simp, by simp, by simp⟩, by simp [DueB], by simp, by simp, by simp⟩
  · rintro ⟨s, g, o⟩ xs _ _ ⟨new, k, ps1, x9, x10, x11, x12, x13, x14, x15, rfl, hp, no, du, kb, hk, hlen⟩
    have hmem : (s, g, o) ∈ ps := by rw [hp]; simp
    have hnot : ends (s, g, o) ∉ ps1.map ends := by
      have := ok.nd
      rw [hp, List.map_append, List.nodup_append] at this
      intro z
      exact this.2.2 _ z _ (by simp) rfl
    have hb : ps1.length < 64 := by have := congrArg List.length hp; simp at this; (clear hlen hk sl bl n8 hsh ht hh hss hrs hlast; omega)
    have hkb : ps1.length * last ≤ 63 * 24 := Nat.mul_le_mul (by (clear hlen hk sl bl n8 hsh ht hh hss hrs hlast hps; omega)) hlast
    refine ⟨_, rfl, ?_⟩
    simp (disch := first | omega | rfl) [g_L_other_b2, tale_last]
    rw [rangeD_eq, range_eq']
    refine wp_forM1 (InvO1 ns (netD n ps) (taleD last rs ss) (spotD h t) E' ps last sh B ps1 (s, g, o)) ?_ ?_ ⟨new, k, x12, x13, x14, x15, by simp, no, du, 0, rfl, by (clear hkb hb hlen hk sl bl n8 hsh ht hh hss hrs hlast hps; omega), fun r hr => .inl (kb r hr), by (clear hkb hb hlen sl bl n8 hsh ht hh hss hrs hlast hps; omega), hlen, by intro m l' _ h; (clear hkb hb hlen hk sl bl n8 hsh ht hh hss hrs hlast hps; omega)⟩
    · rintro l ys _ _ ⟨new, k, y12, y13, y14, y15, rfl, no, du, l', hys, hl', kb, hk, hlen, hd⟩
      obtain ⟨rfl, hl, hy'⟩ := range'_cons hys
      refine ⟨_, rfl, ?_⟩
      simp only [Int.zero_add]
      exact other_b1 (x13 := y13) (x14 := y14) (x15 := y15) ok gt eo' ht hBe.symm hmem hnot hl hk (by (clear hl hlen hb sl bl n8 ht hh hss hrs hps; omega)) no du kb hy' hlen (by (clear hl hk hl' hlen hkb hb sl n8 hsh ht hh hss hlast hps; omega)) hd
    · rintro _ ⟨new, k, y12, y13, y14, y15, rfl, no, du, l', hys, hl', kb, hk, hlen, hd⟩
      have : l' = last := by
        have := congrArg List.length hys
        simp at this; (clear hlen hk hkb hb sl bl n8 hsh ht hh hss hrs hlast hps; omega)
      subst this
      refine ⟨new, k, ps1 ++ [(s, g, o)], _, _, _, _, _, _, _, rfl, by rw [hp]; simp, no, fun s' g' m l h1 h2 => ?_, fun r hr => ?_, by simp [Nat.succ_mul]; (clear hl' hkb ht hlast hlen hb sl bl n8 hsh hh hss hrs hps; omega), hlen⟩
      · rcases List.mem_append.1 h1 with h1 | h1
        · exact du s' g' m l h1 h2
        · simp at h1
          obtain ⟨rfl, rfl, rfl⟩ := h1
          have := (ok.m _ hmem m rfl).1
          exact hd m l rfl (by (clear hk hl' hkb ht hlast hlen hb sl bl n8 hsh hh hss hrs hps; omega)) h2
      · rcases kb r hr with z | z
        · simp at z ⊢; exact .inl z
        · simp [z.1]
  · rintro _ ⟨new, k, ps1, x9, x10, x11, x12, x13, x14, x15, rfl, hp, no, du, kb, hk, hlen⟩
    simp at hp
    subst hp
    have hkb : ps.length * last ≤ 64 * 24 := Nat.mul_le_mul hps hlast
    generalize hA : B ++ new = A at *
    simp (disch := first | omega | rfl) [g_L_other_j4, tale_signs, c2, net_n]
    rw [rangeD_eq, range_eq']
    refine wp_forM (InvO3 ns n (netD n ps) (taleD last rs ss) (spotD h t) (.lst (A.map runD)) (.lst (B.map key3D)) E' last sh k S0) ?_ ?_ ⟨[], x9, x10, x11, x12, x13, x14, x15, none, 0, by simp, rfl, by (clear hkb hk hlen sl bl n8 hsh ht hh hss hrs hlast hps; omega), ⟨by simp, by simp, by simp, by simp, by simp⟩, by simp, by simp⟩
    · rintro v ys _ _ ⟨sn, y9, y10, y11, y12, y13, y14, y15, y17, l, rfl, hys, hl', so, hlt, hsl⟩
      obtain ⟨rfl, hv, hy'⟩ := range'_cons hys
      refine ⟨_, rfl, ?_⟩
      simp only [Int.zero_add]
      have hck := cell_okI (ns := ns) (j := 3 + (v : Int)) (i := 3 + v) (by (clear hv hsl hl' hkb hk hlen sl bl n8 hsh ht hh hss hrs hlast hps; omega))
      have hmk := mix_ok (cellF ns (3 + v)) ((k : Int) + v) (by (clear hv hsl hl' hkb hk hlen sl bl n8 hsh ht hh hss hrs hlast hps; omega)) (by (clear hv hsl hlen sl bl ht hh hss hrs hlast hps; omega))
      have hnk := mix_nn (cellF ns (3 + v)) ((k : Int) + v) (by (clear hv hsl hl' hkb hk hlen sl bl n8 hsh ht hh hss hrs hlast hps; omega)) (by (clear hv hsl hlen sl bl ht hh hss hrs hlast hps; omega))
      generalize mixF (cellF ns (3 + v)) ((k : Int) + v) = nu at *
      have ea := ints_at (E := E') (v := v) (by rw [eo'.len]; exact hv)
      have low := eo'.low v
      obtain ⟨w, ew⟩ : ∃ w : Nat, eAt E' v + 1 = w := ⟨(eAt E' v + 1).toNat, by (clear hnk hv hsl hl' hkb hk hlen sl bl n8 hsh ht hh hss hrs hlast hps; omega)⟩
      obtain ⟨x, hx, ex⟩ := pick3 (nu / 2 % 3) (by (clear ew low hnk hv hsl hl' hkb hk hlen sl bl n8 hsh ht hh hss hrs hlast hps; omega)) (by (clear ew low hnk hv hsl hl' hkb hk hlen sl bl n8 hsh ht hh hss hrs hlast hps; omega))
      have sA : Str.ofString "a" = cA := rfl
      have sB : Str.ofString "b" = cB := rfl
      have sAB : Str.ofString "ab" = cAB := rfl
      generalize hZ : S0 ++ sn = Z at *
      have hL : Z.length < LIM := by rw [← hZ, List.length_append]; simp only [LIM]; (clear ew low hnk hv hkb hk hlen bl hsh ht hh hrs hlast hps; omega)
      simp (disch := first | omega | rfl) [g_L_other_b3, hck, hmk, ea, tale_last]
      refine wp_if1 ?_ ?_ <;> intro hq <;> simp (disch := first | omega | rfl) [ea, ew, sA, sB, sAB, ex, hL]
      · simp at hq
        have e1 : Z.map signD ++ [D.tup [.int v, .int w, .str x]] = (S0 ++ (sn ++ [(v, w, x)])).map signD := by rw [← List.append_assoc, hZ]; simp [signD]
        rw [e1]
        refine ⟨sn ++ [(v, w, x)], y9, y10, y11, y12, _, y14, y15, _, v + 1, rfl, hy', hv, ⟨fun z hz => ?_, fun z hz => ?_, fun z hz => ?_, fun z hz => ?_, ?_⟩, fun z hz => ?_, by simp; (clear hq hL ew low hnk hv hl' hkb hk hlen sl bl n8 hsh ht hh hss hrs hlast hps; omega)⟩
        · rcases List.mem_append.1 hz with hz | hz
          · exact so.h z hz
          · simp at hz; subst hz; exact hv
        · rcases List.mem_append.1 hz with hz | hz
          · exact so.t z hz
          · simp at hz; subst hz; show w ≤ last; (clear hL low hnk hv hsl hl' hkb hk hlen sl bl n8 hsh ht hh hss hrs hlast hps; omega)
        · rcases List.mem_append.1 hz with hz | hz
          · exact so.far z hz
          · simp at hz; subst hz; show eAt E' v < (w : Int); (clear hq hL low hnk hv hsl hl' hkb hk hlen sl bl n8 hsh ht hh hss hrs hlast hps; omega)
        · rcases List.mem_append.1 hz with hz | hz
          · exact so.nm z hz
          · simp at hz; subst hz; exact hx
        · rw [List.map_append, List.nodup_append]
          refine ⟨so.nd, by simp, fun a ha b hb => ?_⟩
          simp at hb; subst hb
          obtain ⟨z, hz, rfl⟩ := List.mem_map.1 ha
          have := hlt z hz
          (clear hq ew low hv hsl hl' hL hnk hkb hk hlen sl bl n8 hsh ht hh hss hrs hlast hps; omega)
        · rcases List.mem_append.1 hz with hz | hz
          · have := hlt z hz; (clear hq hL ew low hnk hv hsl hl' hkb hk hlen sl bl n8 hsh ht hh hss hrs hlast hps; omega)
          · simp at hz; subst hz; show v < v + 1; (clear hq hL ew low hnk hv hsl hl' hkb hk hlen sl bl n8 hsh ht hh hss hrs hlast hps; omega)
      · subst hZ
        exact ⟨sn, y9, y10, y11, y12, _, y14, y15, _, v + 1, rfl, hy', hv, so, fun z hz => by have := hlt z hz; (clear hL ew low hnk hv hsl hl' hkb hk hlen sl bl n8 hsh ht hh hss hrs hlast hps; omega), by (clear hL ew low hnk hv hl' hkb hk hlen sl bl n8 hsh ht hh hss hrs hlast hps; omega)⟩
    · rintro _ ⟨sn, y9, y10, y11, y12, y13, y14, y15, y17, l, rfl, hys, hl', so, hlt, hsl⟩
      generalize hZ : S0 ++ sn = Z at *
      simp (disch := first | omega | rfl) [g_L_other_j3, tale_last]
      refine ⟨new, sn, no, ?_, so, by (clear hsl hl' sl bl n8 hsh ht hh hss hrs hlast hps; omega), by (clear hkb hk hlen sl bl hsh ht hh hss hrs hlast hps; omega), ?_⟩
      · rw [hA]; exact du
      · rw [hA, hZ]; rfl

theorem g_inj {α β : Type} {f : α → β} : ∀ {l : List α}, (l.map f).Nodup → ∀ x ∈ l, ∀ y ∈ l, f x = f y → x = y
  | [], _, x, hx, _, _, _ => by cases hx
  | a :: l, h, x, hx, y, hy, e => by
    rw [List.map_cons, List.nodup_cons] at h
    rcases List.mem_cons.1 hx with hx | hx <;> rcases List.mem_cons.1 hy with hy | hy
    · rw [hx, hy]
    · exact absurd (List.mem_map.2 ⟨y, hy, by rw [← e, hx]⟩) h.1
    · exact absurd (List.mem_map.2 ⟨x, hx, by rw [e, hy]⟩) h.1
    · exact g_inj h.2 x hx y hy e
noncomputable def kE (a b : Nat) : List Key := [.inl (a : Int), .inl (b : Int)]
noncomputable def kT (t : Nat × Nat × Nat) : List Key := [.inl (t.1 : Int), .inl (t.2.1 : Int), .inl (t.2.2 : Int)]
theorem kE_inj {a b c d : Nat} : kE a b = kE c d ↔ a = c ∧ b = d := by simp [kE]; omega
theorem kT_inj {t u : Nat × Nat × Nat} : kT t = kT u ↔ t = u := by
  obtain ⟨a, b, c⟩ := t; obtain ⟨a', b', c'⟩ := u
  simp [kT]; omega
theorem dPutK_len {κ : Type} [DecidableEq κ] {k : κ} {ks : List κ} : (dPutK ks k).length ≤ ks.length + 1 := by unfold dPutK; split <;> simp
theorem nm_str {x : Str} (h : nmOk x = true) : PyData.strOk x = true := by simp [nmOk] at h; exact h.1.1
structure GoodB (n : Nat) (ps : List Path) (last : Nat) (rs : List Run) (ss : List Sign) : Prop where
  runs : RunsOk ps last rs
  due : DueB ps last rs
  sh : ∀ x ∈ ss, x.1 < n
  st : ∀ x ∈ ss, x.2.1 ≤ last
  snd : ss.Nodup
structure MoI (ps1 : List Path) (ks : List (List Key)) (vs : List D) : Prop where
  len : ks.length = vs.length
  few : ks.length ≤ ps1.length
  has : ∀ p ∈ ps1, dGet ks vs (kE p.1 p.2.1) = some (optD p.2.2)
  hasn : ∀ a b, (∀ o, (a, b, o) ∉ ps1) → dGet ks vs (kE a b) = none
structure CoI (rs1 : List Run) (ks : List (List Key)) (vs : List D) : Prop where
  len : ks.length = vs.length
  few : ks.length ≤ rs1.length
  has : ∀ t, (dGet ks vs (kT t)).isSome = true ↔ t ∈ rs1.map rkey
theorem CoI.put {rs1 : List Run} {ks : List (List Key)} {vs : List D} {d : D} (h : CoI rs1 ks vs) (r : Run) : CoI (rs1 ++ [r]) (dPutK ks (kT (rkey r))) (dPutV ks vs (kT (rkey r)) d) :=
  ⟨dPut_len h.len, by have := dPutK_len (k := kT (rkey r)) (ks := ks); have := h.few; simp; omega, fun t => by
    rw [dGet_put h.len]
    by_cases e : kT t = kT (rkey r)
    · rw [if_pos e, kT_inj.1 e]; simp
    · rw [if_neg e, h.has t, List.map_append]
      have : t ≠ rkey r := fun z => e (by rw [z])
      simp [this]⟩
theorem MoI.put {n : Nat} {ps ps1 xs : List Path} {ks : List (List Key)} {vs : List D} {p : Path} (ok : NetOk n ps) (hp : ps = ps1 ++ p :: xs) (h : MoI ps1 ks vs) : MoI (ps1 ++ [p]) (dPutK ks (kE p.1 p.2.1)) (dPutV ks vs (kE p.1 p.2.1) (optD p.2.2)) := by
  refine ⟨dPut_len h.len, by have := dPutK_len (k := kE p.1 p.2.1) (ks := ks); have := h.few; simp; omega, fun q hq => ?_, fun a b hn => ?_⟩
  · rw [dGet_put h.len]
    rcases List.mem_append.1 hq with hq | hq
    · have : ¬ kE q.1 q.2.1 = kE p.1 p.2.1 := fun z => by
        obtain ⟨z1, z2⟩ := kE_inj.1 z
        have nd := ok.nd
        rw [hp, List.map_append, List.nodup_append] at nd
        exact nd.2.2 _ (List.mem_map.2 ⟨q, hq, rfl⟩) _ (List.mem_map.2 ⟨p, by simp, rfl⟩) (by simp [ends, z1, z2])
      rw [if_neg this]; exact h.has q hq
    · simp at hq; subst hq; rw [if_pos rfl]
  · rw [dGet_put h.len, if_neg, h.hasn a b fun o z => hn o (List.mem_append_left _ z)]
    intro z
    obtain ⟨z1, z2⟩ := kE_inj.1 z
    exact hn p.2.2 (by rw [z1, z2]; simp)
theorem sl3 {r : Run} : slD (runD r) none (some 3) = some (.fz, .tup [.int r.1, .int r.2.1, .int r.2.2.1]) := (rfl)
theorem sl2 {r : Run} : slD (runD r) none (some 2) = some (.fz, .tup [.int r.1, .int r.2.1]) := (rfl)
theorem cnt_signs {ss : List Sign} {x : Sign} (hn : ∀ x ∈ ss, PyData.strOk x.2.2 = true) (hx : x ∈ ss) : cntD (ss.map signD) (signD x) = some (.fz, .int (ss.count x : Nat)) := by
  have p1 : ∀ y ∈ ss, pl 59 (signD y) = true := fun y hy => by
    have := hn y hy
    simp [signD, pl, plL, this]
  have p2 : ∀ y ∈ ss, pl 60 (signD y) = true := fun y hy => by
    have := hn y hy
    simp [signD, pl, plL, this]
  have e := cntD_pl (a := signD x) (xs := ss.map signD) (p2 x hx) (plL_iff.2 fun d hd => by
    obtain ⟨y, hy, rfl⟩ := List.mem_map.1 hd
    exact p2 y hy)
  rw [e]
  have : List.countP (fun y => decide (y = signD x)) (ss.map signD) = ss.count x := by
    rw [List.countP_map, List.count]
    congr 1
    funext y
    have : signD y = signD x ↔ y = x := by
      obtain ⟨a, b, c⟩ := y; obtain ⟨a', b', c'⟩ := x
      simp [signD]
      constructor
      · rintro ⟨h1, h2, h3⟩; exact ⟨by (clear h2; omega), by (clear h1; omega), h3⟩
      · rintro ⟨h1, h2, h3⟩; exact ⟨by (clear h2; omega), by (clear h1; omega), h3⟩
    by_cases h : y = x
    · subst h; simp
    · have h' : ¬ signD y = signD x := fun z => h (this.1 z)
      simp [h, h']
  rw [this]
noncomputable def GQ (n : Nat) (ps : List Path) (last : Nat) (rs : List Run) (ss : List Sign) (x : R) : Prop := ∃ b, x = .ok .fz (.bl b) ∧ (b = true ↔ GoodB n ps last rs ss)
theorem GQ.no {n : Nat} {ps : List Path} {last : Nat} {rs : List Run} {ss : List Sign} (h : ¬ GoodB n ps last rs ss) : GQ n ps last rs ss (.ok .fz (.bl false)) := ⟨false, rfl, by simp [h]⟩

section
variable {n last : Nat} {ps : List Path} {rs : List Run} {ss : List Sign}
noncomputable abbrev evG (n : Nat) (ps : List Path) (last : Nat) (rs : List Run) (ss : List Sign) (m : D) (l : Ev) : Ev := some (.fz, netD n ps) :: some (.fz, taleD last rs ss) :: some (.ow, m) :: l
noncomputable def InvG1 (n : Nat) (ps : List Path) (last : Nat) (rs : List Run) (ss : List Sign) (xs : List Path) (ev : Ev) : Prop := ∃ ps1 ks vs x3 x4 x5 x6 x7 x8 x9, ev = evG n ps last rs ss (.dT ks vs) [x3, x4, x5, x6, x7, x8, x9] ∧ ps = ps1 ++ xs ∧ MoI ps1 ks vs
noncomputable def InvG2 (n : Nat) (ps : List Path) (last : Nat) (rs : List Run) (ss : List Sign) (m : D) (xs : List Run) (ev : Ev) : Prop := ∃ rs1 ks vs x3 x4 x5 x7 x8 x9, ev = evG n ps last rs ss m [x3, x4, x5, some (.ow, .dT ks vs), x7, x8, x9] ∧ rs = rs1 ++ xs ∧ CoI rs1 ks vs ∧ RunsOk ps last rs1
noncomputable def InvG3 (n : Nat) (ps : List Path) (last : Nat) (rs : List Run) (ss : List Sign) (m c : D) (xs : List Path) (ev : Ev) : Prop := ∃ ps1 x3 x4 x5 x7 x8 x9, ev = evG n ps last rs ss m [x3, x4, x5, some (.ow, c), x7, x8, x9] ∧ ps = ps1 ++ xs ∧ DueB ps1 last rs
noncomputable def InvG4 (n : Nat) (ps : List Path) (last : Nat) (rs : List Run) (ss : List Sign) (m c : D) (s g : Nat) (o : Int) (xs : List Nat) (ev : Ev) : Prop := ∃ x7 x8 x9, ev = evG n ps last rs ss m [some (.fz, .int s), some (.fz, .int g), some (.fz, .int o), some (.ow, c), x7, x8, x9] ∧ ∀ l : Nat, (l : Int) + o ≤ last → l ∉ xs → ∃ c, (s, g, l, c) ∈ rs
noncomputable def InvG5 (n : Nat) (ps : List Path) (last : Nat) (rs : List Run) (ss : List Sign) (m c : D) (xs : List Sign) (ev : Ev) : Prop := ∃ ss1 x3 x4 x5 x7 x8 x9, ev = evG n ps last rs ss m [x3, x4, x5, some (.ow, c), x7, x8, x9] ∧ ss = ss1 ++ xs ∧ ∀ x ∈ ss1, x.1 < n ∧ x.2.1 ≤ last ∧ ss.count x = 1
theorem good_ok (ok : NetOk n ps) (hl : ps.length ≤ 200) (hrl : rs.length ≤ 5000) (hsl : ss.length ≤ 5000) (hnm : ∀ x ∈ ss, PyData.strOk x.2.2 = true) (hlast : last ≤ 100) : GQ n ps last rs ss (φ_L_good [netD n ps, taleD last rs ss]) := by
  refine run_el (φ_L_good [netD n ps, taleD last rs ss]) rfl ?_
  simp (disch := first | omega | rfl) [ev0, g_L_good, net_ps]
  refine wp_forM (InvG1 n ps last rs ss) ?_ ?_ ⟨[], [], [], _, _, _, _, _, _, _, rfl, rfl, rfl, by simp, by simp, fun _ _ _ => rfl⟩
  · rintro ⟨s, g, o⟩ xs _ _ ⟨ps1, ks, vs, x3, x4, x5, x6, x7, x8, x9, rfl, hp, mi⟩
    have hb : ps1.length ≤ 200 := by have := congrArg List.length hp; simp at this; (clear hlast hsl hrl; omega)
    have hL : ks.length < LIM := by have := mi.few; simp [LIM]; (clear hlast hsl hrl hl; omega)
    refine ⟨_, rfl, ?_⟩
    simp (disch := first | omega | rfl) [g_L_good_b1, sitKT_ok hL]
    exact ⟨ps1 ++ [(s, g, o)], _, _, _, _, _, _, _, _, _, rfl, by rw [hp]; simp, mi.put ok hp⟩
  rintro _ ⟨ps1, mk, mv, x3, x4, x5, x6, x7, x8, x9, rfl, hp, mi⟩
  simp at hp
  subst hp
  simp (disch := first | omega | rfl) [g_L_good_j6, tale_runs]
  refine wp_forM (InvG2 n ps last rs ss (.dT mk mv)) ?_ ?_ ⟨[], [], [], _, _, _, _, _, _, rfl, rfl, ⟨rfl, by simp, fun t => by simp [dGet]⟩, ⟨by simp, by simp, by simp⟩⟩
  · rintro r xs _ _ ⟨rs1, ks, vs, x3, x4, x5, x7, x8, x9, rfl, hp, ci, ro⟩
    have hb : rs1.length ≤ 5000 := by have := congrArg List.length hp; simp at this; (clear hlast hsl hl; omega)
    have hL : ks.length < LIM := by have := ci.few; simp [LIM]; (clear hlast hsl hrl hl; omega)
    have i2 : notInD (.tup [.int r.1, .int r.2.1]) (.dT mk mv) = some (.fz, .bl !(dGet mk mv (kE r.1 r.2.1)).isSome) := notInD_dT (by simp [kE])
    have i3 : inD (.tup [.int r.1, .int r.2.1, .int r.2.2.1]) (.dT ks vs) = some (.fz, .bl (dGet ks vs (kT (rkey r))).isSome) := inD_dT (by simp [kT, rkey])
    have k0 : isiD [runD r, .ty "tuple"] = some (.fz, .bl true) := (rfl)
    have k1 : lenD [runD r] = some (.fz, .int 4) := (rfl)
    have k2 : neD (.int 4) (.int 4) = some (.fz, .bl false) := by rw [neD_pl rfl rfl]; simp
    have rm : r ∈ rs := by rw [hp]; simp
    refine ⟨_, rfl, ?_⟩
    by_cases hP : ∃ o, (r.1, r.2.1, o) ∈ ps
    · obtain ⟨o, ho⟩ := hP
      have e1 := mi.has _ ho
      simp only at e1
      by_cases hk : rkey r ∈ rs1.map rkey
      · have e2 := (ci.has (rkey r)).2 hk
        simp (disch := first | omega | rfl) [g_L_good_b2, k0, k1, k2, sl2, sl3, i2, i3, e1, e2]
        refine GQ.no fun gb => ?_
        have := gb.runs.nd
        rw [hp, List.map_append, List.nodup_append] at this
        exact this.2.2 _ hk _ (List.mem_map.2 ⟨r, by simp, rfl⟩) rfl
      · have e2 : (dGet ks vs (kT (rkey r))).isSome = false := by
          cases q : (dGet ks vs (kT (rkey r))).isSome with
          | false => rfl
          | true => exact absurd ((ci.has _).1 q) hk
        have r2 : idxD (runD r) (.int 2) = some (.fz, .int r.2.2.1) := by simp [runD]
        have r3 : idxD (runD r) (.int 3) = some (.fz, .int r.2.2.2) := by simp [runD]
        have d2 : idxD (.dT mk mv) (.tup [.int r.1, .int r.2.1]) = some (.fz, optD o) := by
          rw [idxD_dT (q := kE r.1 r.2.1) (by simp [kE]), e1]; rfl
        have hz : ¬ ((r.2.2.1 : Int) < 0) := by (clear hL hb hlast hsl hrl hl; omega)
        have bad : ∀ o', (r.1, r.2.1, o') ∈ ps → o' = o := fun o' h => by
          have := g_inj ok.nd _ h _ ho rfl
          simpa using this
        by_cases h1 : r.2.2.2 ≤ r.2.2.1
        · simp (disch := first | omega | rfl) [g_L_good_b2, k0, k1, k2, sl2, sl3, i2, i3, e1, e2, g_L_good_j2, r2, r3, d2, hz, h1]
          refine GQ.no fun gb => ?_
          have := (gb.runs.turn r rm).1; (clear hz hL hb hlast hsl hrl hl; omega)
        by_cases h2 : last < r.2.2.2
        · simp (disch := first | omega | rfl) [g_L_good_b2, k0, k1, k2, sl2, sl3, i2, i3, e1, e2, g_L_good_j2, r2, r3, d2, hz, h1, tale_last, h2]
          refine GQ.no fun gb => ?_
          have := (gb.runs.turn r rm).2; (clear h1 hz hL hb hlast hsl hrl hl; omega)
        have fin : (∀ m, o = some m → (r.2.2.2 : Int) ≤ r.2.2.1 + m) → RunsOk ps last (rs1 ++ [r]) := fun hm => by
          refine ⟨fun q hq => ?_, fun q hq => ?_, ?_⟩
          · rcases List.mem_append.1 hq with hq | hq
            · exact ro.path q hq
            · simp at hq; subst hq; exact ⟨o, ho, hm⟩
          · rcases List.mem_append.1 hq with hq | hq
            · exact ro.turn q hq
            · simp at hq; subst hq; (clear hz hL hb hlast hsl hrl hl; omega)
          · rw [List.map_append, List.nodup_append]
            refine ⟨ro.nd, by simp, fun a ha b hb z => ?_⟩
            simp at hb; subst z; subst hb; exact hk ha
        cases o with
        | none =>
          simp (disch := first | omega | rfl) [g_L_good_b2, k0, k1, k2, sl2, sl3, i2, i3, e1, e2, g_L_good_j2, r2, r3, d2, hz, h1, tale_last, h2, optD, g_L_good_j1, sitKT_ok hL]
          exact ⟨rs1 ++ [r], _, _, _, _, _, _, _, _, rfl, by rw [hp]; simp, ci.put r, fin fun m z => by cases z⟩
        | some m =>
          by_cases h3 : (r.2.2.1 : Int) + m < r.2.2.2
          · simp (disch := first | omega | rfl) [g_L_good_b2, k0, k1, k2, sl2, sl3, i2, i3, e1, e2, g_L_good_j2, r2, r3, d2, hz, h1, tale_last, h2, optD, h3]
            refine GQ.no fun gb => ?_
            obtain ⟨o', ho', hm⟩ := gb.runs.path r rm
            have := hm m (bad o' ho'); (clear h2 h1 hz hL hb hlast hsl hrl hl; omega)
          · simp (disch := first | omega | rfl) [g_L_good_b2, k0, k1, k2, sl2, sl3, i2, i3, e1, e2, g_L_good_j2, r2, r3, d2, hz, h1, tale_last, h2, optD, h3, g_L_good_j1, sitKT_ok hL]
            exact ⟨rs1 ++ [r], _, _, _, _, _, _, _, _, rfl, by rw [hp]; simp, ci.put r, fin fun m' z => by cases z; (clear h2 h1 hz hL hb hlast hsl hrl hl; omega)⟩
    · have e1 := mi.hasn r.1 r.2.1 fun o z => hP ⟨o, z⟩
      simp (disch := first | omega | rfl) [g_L_good_b2, k0, k1, k2, sl2, sl3, i2, i3, e1]
      refine GQ.no fun gb => ?_
      obtain ⟨o, ho, _⟩ := gb.runs.path r rm
      exact hP ⟨o, ho⟩
  rintro _ ⟨rs1, ck, cv, x3, x4, x5, x7, x8, x9, rfl, hp, ci, ro⟩
  simp at hp
  subst hp
  simp (disch := first | omega | rfl) [g_L_good_j5, net_ps]
  refine wp_forM (InvG3 n ps last rs ss (.dT mk mv) (.dT ck cv)) ?_ ?_ ⟨[], _, _, _, _, _, _, rfl, rfl, fun s g m l h => by cases h⟩
  · rintro ⟨s, g, o⟩ xs _ _ ⟨ps1, x3, x4, x5, x7, x8, x9, rfl, hp, du⟩
    have hm : (s, g, o) ∈ ps := by rw [hp]; simp
    cases o with
    | none =>
      refine ⟨_, rfl, ?_⟩
      simp (disch := first | omega | rfl) [g_L_good_b4, optD]
      refine ⟨ps1 ++ [(s, g, none)], _, _, _, _, _, _, rfl, by rw [hp]; simp, fun s' g' m' l h h' => ?_⟩
      rcases List.mem_append.1 h with h | h
      · exact du s' g' m' l h h'
      · simp at h
    | some m =>
      refine ⟨_, rfl, ?_⟩
      have m1 := (ok.m _ hm m rfl).1
      simp (disch := first | omega | rfl) [g_L_good_b4, optD, tale_last]
      rw [rangeD_eq]
      refine wp_forM1 (InvG4 n ps last rs ss (.dT mk mv) (.dT ck cv) s g m) ?_ ?_ ⟨_, _, _, rfl, fun l hl hn => ?_⟩
      · rintro l ys _ ⟨pre, hp'⟩ ⟨x7, x8, x9, rfl, dn⟩
        have hl : l < ((last : Int) - m + 1).toNat := by
          have : l ∈ List.range ((last : Int) - m + 1).toNat := by rw [hp']; simp
          simpa using this
        have i3 : notInD (.tup [.int s, .int g, .int l]) (.dT ck cv) = some (.fz, .bl !(dGet ck cv (kT (s, g, l))).isSome) := notInD_dT (by simp [kT])
        refine ⟨_, rfl, ?_⟩
        simp only [Int.zero_add]
        by_cases hk : (s, g, l) ∈ rs.map rkey
        · have e2 := (ci.has (s, g, l)).2 hk
          simp (disch := first | omega | rfl) [g_L_good_b3, i3, e2]
          refine ⟨_, _, _, rfl, fun l' hl' hn => ?_⟩
          by_cases e : l' = l
          · subst e
            obtain ⟨q, hq, e⟩ := List.mem_map.1 hk
            obtain ⟨a, b, c, d⟩ := q
            simp [rkey] at e
            obtain ⟨rfl, rfl, rfl⟩ := e
            exact ⟨d, hq⟩
          · exact dn l' hl' (by simp [e, hn])
        · have e2 : (dGet ck cv (kT (s, g, l))).isSome = false := by
            cases q : (dGet ck cv (kT (s, g, l))).isSome with
            | false => rfl
            | true => exact absurd ((ci.has _).1 q) hk
          simp (disch := first | omega | rfl) [g_L_good_b3, i3, e2]
          refine GQ.no fun gb => hk ?_
          obtain ⟨c, hc⟩ := gb.due s g m l hm (by (clear m1 hlast hsl hrl; omega))
          exact List.mem_map.2 ⟨_, hc, rfl⟩
      · rintro _ ⟨x7, x8, x9, rfl, dn⟩
        simp (disch := first | omega | rfl) []
        refine ⟨ps1 ++ [(s, g, some m)], _, _, _, _, _, _, rfl, by rw [hp]; simp, fun s' g' m' l h h' => ?_⟩
        rcases List.mem_append.1 h with h | h
        · exact du s' g' m' l h h'
        · simp at h
          obtain ⟨rfl, rfl, rfl⟩ := h
          exact dn l h' (by simp)
      · exact absurd (List.mem_range.2 (by (clear m1 hlast hsl hrl; omega))) hn
  rintro _ ⟨ps1, x3, x4, x5, x7, x8, x9, rfl, hp, du⟩
  simp at hp
  subst hp
  simp (disch := first | omega | rfl) [g_L_good_j4, tale_signs]
  refine wp_forM (InvG5 n ps last rs ss (.dT mk mv) (.dT ck cv)) ?_ ?_ ⟨[], _, _, _, _, _, _, rfl, rfl, by simp⟩
  · rintro x xs _ _ ⟨ss1, x3, x4, x5, x7, x8, x9, rfl, hp, hs⟩
    have xm : x ∈ ss := by rw [hp]; simp
    have k0 : isiD [signD x, .ty "tuple"] = some (.fz, .bl true) := (rfl)
    have k1 : lenD [signD x] = some (.fz, .int 3) := (rfl)
    have k2 : neD (.int 3) (.int 3) = some (.fz, .bl false) := by rw [neD_pl rfl rfl]; simp
    have q0 : idxD (signD x) (.int 0) = some (.fz, .int x.1) := by simp [signD]
    have q1 : idxD (signD x) (.int 1) = some (.fz, .int x.2.1) := by simp [signD]
    have z0 : (0 : Int) ≤ x.1 := by (clear hlast hsl hrl hl; omega)
    have z1 : (0 : Int) ≤ x.2.1 := by (clear z0 hlast hsl hrl hl; omega)
    have ct := cnt_signs hnm xm
    refine ⟨_, rfl, ?_⟩
    by_cases h1 : x.1 < n
    · by_cases h2 : x.2.1 ≤ last
      · by_cases h3 : ss.count x = 1
        · have n1 : neD (.int (ss.count x : Nat)) (.int 1) = some (.fz, .bl false) := by rw [h3, neD_pl rfl rfl]; simp
          simp (disch := first | omega | rfl) [g_L_good_b5, k0, k1, k2, q0, q1, z0, z1, h1, net_n, g_L_good_j3, tale_last, h2, tale_signs, ct, n1]
          refine ⟨ss1 ++ [x], _, _, _, _, _, _, rfl, by rw [hp]; simp, fun y hy => ?_⟩
          rcases List.mem_append.1 hy with hy | hy
          · exact hs y hy
          · simp at hy; subst hy; exact ⟨h1, h2, h3⟩
        · have n1 : neD (.int (ss.count x : Nat)) (.int 1) = some (.fz, .bl true) := by
            rw [neD_pl rfl rfl]
            have : (D.int (ss.count x : Nat)) ≠ .int 1 := fun z => h3 (by injection z with z; (clear h3 h2 h1 z1 z0 hlast hsl hrl hl; omega))
            simp [this]
          simp (disch := first | omega | rfl) [g_L_good_b5, k0, k1, k2, q0, q1, z0, z1, h1, net_n, g_L_good_j3, tale_last, h2, tale_signs, ct, n1]
          refine GQ.no fun gb => h3 ?_
          have c1 := List.nodup_iff_count.1 gb.snd x
          have c2 := List.count_pos_iff.2 xm
          (clear h3 h2 h1 z1 z0 hlast hsl hrl hl; omega)
      · simp (disch := first | omega | rfl) [g_L_good_b5, k0, k1, k2, q0, q1, z0, z1, h1, net_n, g_L_good_j3, tale_last, h2]
        exact GQ.no fun gb => h2 (gb.st x xm)
    · simp (disch := first | omega | rfl) [g_L_good_b5, k0, k1, k2, q0, q1, z0, z1, h1, net_n]
      exact GQ.no fun gb => h1 (gb.sh x xm)
  · rintro _ ⟨ss1, x3, x4, x5, x7, x8, x9, rfl, hp, hs⟩
    simp at hp
    subst hp
    simp (disch := first | omega | rfl) []
    have gb : GoodB n ps last rs ss := ⟨ro, du, fun x hx => (hs x hx).1, fun x hx => (hs x hx).2.1, List.nodup_iff_count.2 fun x => by
      by_cases hx : x ∈ ss
      · exact Nat.le_of_eq (hs x hx).2.2
      · rw [List.count_eq_zero.2 hx]; (clear hlast hsl hrl hl; omega)⟩
    exact ⟨true, rfl, by simp [gb]⟩
end
theorem runD_inj {a b : Run} : runD a = runD b ↔ a = b := by
  obtain ⟨a, b', c, d⟩ := a; obtain ⟨e, f, g, i⟩ := b
  simp [runD]; omega
theorem runD_pl (r : Run) : pl 60 (runD r) = true := by simp [runD, pl, plL]
theorem signD_pl {x : Sign} (h : PyData.strOk x.2.2 = true) : pl 60 (signD x) = true := by simp [signD, pl, plL, h]
theorem ne_runs (a b : Run) : neD (runD a) (runD b) = some (.fz, .bl (decide (a ≠ b))) := by
  rw [neD_pl (runD_pl a) (runD_pl b)]
  congr 3
  rw [decide_eq_decide]; exact not_congr runD_inj
theorem ne_signs {a b : Sign} (ha : PyData.strOk a.2.2 = true) (hb : PyData.strOk b.2.2 = true) : neD (signD a) (signD b) = some (.fz, .bl (decide (a ≠ b))) := by
  rw [neD_pl (signD_pl ha) (signD_pl hb)]
  congr 3
  rw [decide_eq_decide]; exact not_congr signD_inj
theorem ne_nil {l : List D} (h : plL 59 l = true) : neD (.lst l) (.lst []) = some (.fz, .bl (decide (l ≠ []))) := by
  rw [neD_pl (by simp [pl, h]) (by simp [pl, plL])]
  congr 3
  rw [decide_eq_decide]
  simp
theorem eq_ints (a b : Int) : eqD (.int a) (.int b) = some (.fz, .bl (decide (a = b))) := by
  rw [eqD_pl rfl rfl]
  congr 3
  rw [decide_eq_decide]
  simp
noncomputable def cX : Str := Str.ofString "x"
theorem cX_ok : PyData.strOk cX = true := by decide +kernel
theorem cX_len : cX.length = 1 := by decide +kernel
noncomputable def TQ (last : Nat) (x : R) : Prop := ∃ rs ss, x = .ok .fz (taleD last rs ss) ∧ rs.length ≤ 4000 ∧ ss.length ≤ 90 ∧ ∀ x ∈ ss, PyData.strOk x.2.2 = true
section
variable {nu : Int} {n h t last hs : Nat} {ps : List Path} {O : D} {R rs : List Run} {S ss : List Sign} {k6 k7 : Kd} {E : List Int} {x10 x11 x12 : Option (Kd × D)}
noncomputable abbrev evU (nu : Int) (n : Nat) (ps : List Path) (O : D) (h t : Nat) (R : List Run) (S : List Sign) (last : Nat) (k6 : Kd) (rs : List Run) (k7 : Kd) (ss : List Sign) (E : List Int) (hs : Nat) (l : Ev) : Ev :=
  some (.fz, .int nu) :: some (.fz, netD n ps) :: some (.fz, O) :: some (.fz, spotD h t) :: some (.fz, viewD h t R S) :: some (.fz, .int last) :: some (k6, .lst (rs.map runD)) :: some (k7, .lst (ss.map signD)) :: some (.ow, .lst (E.map D.int)) :: some (.fz, .int hs) :: l
noncomputable abbrev Kk (k : Kd) : Prop := k = .fz ∨ k = .ow
theorem tu_j1 (h6 : Kk k6) (h7 : Kk k7) (hr : rs.length ≤ 4000) (hn : ss.length ≤ 90) (nm : ∀ x ∈ ss, PyData.strOk x.2.2 = true) : Wp (g_L_turned_j1 (evU nu n ps O h t R S last k6 rs k7 ss E hs [x10, x11, x12])) (runQ (TQ last)) := by
  rcases h6 with rfl | rfl <;> rcases h7 with rfl | rfl <;> simp (disch := first | omega | rfl) [g_L_turned_j1] <;> exact ⟨rs, ss, rfl, hr, hn, nm⟩
theorem add_sign {y : Sign} (hn : ss.length ≤ 90) : addD (.lst (ss.map signD)) (.lst [signD y]) = some (.ow, .lst ((ss ++ [y]).map signD)) := by
  simp [addD, LIM]; omega
theorem add_run {y : Run} (hn : rs.length ≤ 4000) : addD (.lst (rs.map runD)) (.lst [runD y]) = some (.ow, .lst ((rs ++ [y]).map runD)) := by
  simp [addD, LIM]; omega
theorem nm_add {y : Sign} (nm : ∀ x ∈ ss, PyData.strOk x.2.2 = true) (hy : PyData.strOk y.2.2 = true) : ∀ x ∈ ss ++ [y], PyData.strOk x.2.2 = true := fun x hx => by
  rcases List.mem_append.1 hx with z | z
  · exact nm x z
  · simp at z; subst z; exact hy
theorem tu_j2 (h6 : Kk k6) (h7 : Kk k7) (hr : rs.length ≤ 4000) (hn : ss.length ≤ 80) (nm : ∀ x ∈ ss, PyData.strOk x.2.2 = true) (hE : hs < E.length) (lo : -1 ≤ eAt E hs) : Wp (g_L_turned_j2 (evU nu n ps O h t R S last k6 rs k7 ss E hs [x10, x11, x12])) (runQ (TQ last)) := by
  have a1 := ints_at (E := E) (v := hs) hE
  by_cases c : nu % 6 = 5
  · by_cases d : eAt E hs < last
    · have e : D.tup [.int hs, .int (eAt E hs + 1), .str (Str.ofString "x")] = signD (hs, (eAt E hs + 1).toNat, cX) := by
        have : ((eAt E hs + 1).toNat : Int) = eAt E hs + 1 := by (clear d c hE hn hr; omega)
        simp only [signD, this]; rfl
      have g1 : addD (.lst (ss.map signD)) (.lst [signD (hs, (eAt E hs + 1).toNat, cX)]) = some (.ow, .lst ((ss ++ [(hs, (eAt E hs + 1).toNat, cX)]).map signD)) := add_sign (by (clear d c lo hE hr; omega))
      have g2 : (ss ++ [(hs, (eAt E hs + 1).toNat, cX)]).length ≤ 90 := by simp; (clear d c lo hE hr; omega)
      have g3 := nm_add (y := (hs, (eAt E hs + 1).toNat, cX)) nm cX_ok
      generalize ss ++ [(hs, (eAt E hs + 1).toNat, cX)] = ss' at *
      rcases h7 with rfl | rfl <;> simp (disch := first | omega | rfl) [g_L_turned_j2, eq_ints, c, a1, d, e, g1] <;> exact tu_j1 h6 (.inr rfl) hr g2 g3
    · simp (disch := first | omega | rfl) [g_L_turned_j2, eq_ints, c, a1, d]
      exact tu_j1 h6 h7 hr (by (clear d c lo hE hr; omega)) nm
  · simp (disch := first | omega | rfl) [g_L_turned_j2, eq_ints, c]
    exact tu_j1 h6 h7 hr (by (clear c lo hE hr; omega)) nm
theorem tu_j3 (h6 : Kk k6) (h7 : Kk k7) (hr : rs.length ≤ 4000) (hn : ss.length ≤ 70) (nm : ∀ x ∈ ss, PyData.strOk x.2.2 = true) (hE : hs < E.length) (lo : -1 ≤ eAt E hs) : Wp (g_L_turned_j3 (evU nu n ps O h t R S last k6 rs k7 ss E hs [x10, x11, x12])) (runQ (TQ last)) := by
  have a1 := ints_at (E := E) (v := hs) hE
  by_cases c : nu % 6 = 4
  · by_cases d : 0 ≤ eAt E hs
    · have e : D.tup [.int hs, .int (eAt E hs), .str (Str.ofString "x")] = signD (hs, (eAt E hs).toNat, cX) := by
        have : ((eAt E hs).toNat : Int) = eAt E hs := by (clear c lo hE hn hr; omega)
        simp only [signD, this]; rfl
      have g1 : addD (.lst (ss.map signD)) (.lst [signD (hs, (eAt E hs).toNat, cX)]) = some (.ow, .lst ((ss ++ [(hs, (eAt E hs).toNat, cX)]).map signD)) := add_sign (by (clear d c lo hE hr; omega))
      have g2 : (ss ++ [(hs, (eAt E hs).toNat, cX)]).length ≤ 80 := by simp; (clear d c lo hE hr; omega)
      have g3 := nm_add (y := (hs, (eAt E hs).toNat, cX)) nm cX_ok
      generalize ss ++ [(hs, (eAt E hs).toNat, cX)] = ss' at *
      rcases h7 with rfl | rfl <;> simp (disch := first | omega | rfl) [g_L_turned_j3, eq_ints, c, a1, d, e, g1] <;> exact tu_j2 h6 (.inr rfl) hr g2 g3 hE lo
    · simp (disch := first | omega | rfl) [g_L_turned_j3, eq_ints, c, a1, d]
      exact tu_j2 h6 h7 hr (by (clear d c lo hE hr; omega)) nm hE lo
  · simp (disch := first | omega | rfl) [g_L_turned_j3, eq_ints, c]
    exact tu_j2 h6 h7 hr (by (clear c lo hE hr; omega)) nm hE lo
theorem comp_ne {A : List Sign} {y : Sign} (hn : A.length ≤ 5000) (nm : ∀ x ∈ A, PyData.strOk x.2.2 = true) (hy : PyData.strOk y.2.2 = true) :
    compO (bName 1) (eOp neD (varR 1) (varR 0)) (varR 1) [some (.fz, signD y), none] (.ok (A.map signD)) = .ok .ow (.lst ((A.filter fun x => decide (x ≠ y)).map signD)) :=
  compO_fm (fun x => decide (x ≠ y)) signD (by simp [LIM]; omega) fun x hm => by
    refine ⟨_, rfl, ⟨.fz, ?_⟩, fun _ => ⟨.fz, by simp, ?_⟩⟩
    · simp (disch := first | omega | rfl) [ne_signs (nm x hm) hy]
    · simp (disch := first | omega | rfl) []
theorem comp_neR {A : List Run} {y : Run} (hn : A.length ≤ 5000) :
    compO (bName 1) (eOp neD (varR 1) (varR 0)) (varR 1) [some (.fz, runD y), none] (.ok (A.map runD)) = .ok .ow (.lst ((A.filter fun x => decide (x ≠ y)).map runD)) :=
  compO_fm (fun x => decide (x ≠ y)) runD (by simp [LIM]; omega) fun x hm => by
    refine ⟨_, rfl, ⟨.fz, ?_⟩, fun _ => ⟨.fz, by simp, ?_⟩⟩
    · simp (disch := first | omega | rfl) [ne_runs]
    · simp (disch := first | omega | rfl) []
theorem nm_fil {p : Sign → Bool} (nm : ∀ x ∈ ss, PyData.strOk x.2.2 = true) : ∀ x ∈ ss.filter p, PyData.strOk x.2.2 = true := fun x hx => nm x (List.mem_filter.1 hx).1
theorem pickS' {α : Type} {f : α → D} {l : List α} (nu : Int) (h : l ≠ []) : ∃ x ∈ l, ∃ i : Int, nu / 7 % (l.length : Int) = i ∧ idxD (.lst (l.map f)) (.int i) = some (.fz, f x) := by
  have hp : 0 < l.length := by cases l with | nil => exact absurd rfl h | cons _ _ => simp
  obtain ⟨i, ei, hi⟩ := emod_nat (nu / 7) hp
  refine ⟨l[i], List.getElem_mem hi, i, ei, ?_⟩
  have : atI (l.map f) (i : Int) = some (f l[i]) := atI_of (by simp [hi])
  simp [this]
theorem view1 : idxD (viewD h t R S) (.int 1) = some (.fz, .lst (R.map runD)) := by simp [viewD]
theorem view2 : idxD (viewD h t R S) (.int 2) = some (.fz, .lst (S.map signD)) := by simp [viewD]
theorem plR (R : List Run) : plL 59 (R.map runD) = true := plL_iff.2 fun d hd => by
  obtain ⟨r, _, rfl⟩ := List.mem_map.1 hd
  simp [runD, pl, plL]
theorem plS (nm : ∀ x ∈ S, PyData.strOk x.2.2 = true) : plL 59 (S.map signD) = true := plL_iff.2 fun d hd => by
  obtain ⟨x, hx, rfl⟩ := List.mem_map.1 hd
  simp [signD, pl, plL, nm x hx]
theorem tu_j4 (h6 : Kk k6) (h7 : Kk k7) (hr : rs.length ≤ 4000) (hn : ss.length ≤ 60) (nm : ∀ x ∈ ss, PyData.strOk x.2.2 = true) (hE : hs < E.length) (lo : -1 ≤ eAt E hs) (vn : ∀ x ∈ S, PyData.strOk x.2.2 = true ∧ x.2.2.length ≤ 12) :
    Wp (g_L_turned_j4 (evU nu n ps O h t R S last k6 rs k7 ss E hs [x10, x11, x12])) (runQ (TQ last)) := by
  have nn := ne_nil (plS fun x hx => (vn x hx).1)
  have ll : lenD [.lst (S.map signD)] = some (.fz, .int S.length) := by simp [lenD, lenL]
  by_cases c : nu % 6 = 3
  · by_cases d : S = []
    · subst d
      simp (disch := first | omega | rfl) [g_L_turned_j4, eq_ints, c, view2, nn]
      exact tu_j3 h6 h7 hr (by (clear c lo hE hr; omega)) nm hE lo
    · obtain ⟨y, hy, i, ei, ey⟩ := pickS' (f := signD) nu d
      have dd : S.map signD ≠ [] := by simpa using d
      have pos : 0 < (S.length : Int) := by have : 0 < S.length := List.length_pos_iff.2 d; (clear ei c lo hE hn hr; omega)
      have y0 : idxD (signD y) (.int 0) = some (.fz, .int y.1) := by simp [signD]
      have y1 : idxD (signD y) (.int 1) = some (.fz, .int y.2.1) := by simp [signD]
      have y2 : idxD (signD y) (.int 2) = some (.fz, .str y.2.2) := by simp [signD]
      have cl := cutS_len (vn y hy).2
      have co := cutS_ok (i := 1) (vn y hy).1
      have cc := comp_ne (y := y) (A := ss) (by (clear cl pos ei c lo hE hr; omega)) nm (vn y hy).1
      have fl := List.length_filter_le (fun x => decide (x ≠ y)) ss
      have e : D.tup [.int y.1, .int y.2.1, .str (Str.ofString "x" ++ cutS y.2.2 1)] = signD (y.1, y.2.1, cX ++ cutS y.2.2 1) := rfl
      have l1 : (cutS y.2.2 1).length ≤ LIM := by simp [LIM]; (clear fl pos ei c lo hE hn hr; omega)
      have l2 : addD (.str (Str.ofString "x")) (.str (cutS y.2.2 1)) = some (.fz, .str (Str.ofString "x" ++ cutS y.2.2 1)) := if_pos (by have := cX_len; unfold cX at this; rw [this]; simp [LIM]; (clear this l1 fl pos ei c lo hE hn hr; omega))
      have g1 : addD (.lst ((ss.filter fun x => decide (x ≠ y)).map signD)) (.lst [signD (y.1, y.2.1, cX ++ cutS y.2.2 1)]) = some (.ow, .lst ((ss.filter (fun x => decide (x ≠ y)) ++ [(y.1, y.2.1, cX ++ cutS y.2.2 1)]).map signD)) := add_sign (by (clear l1 cl pos ei c lo hE hr; omega))
      have g2 : (ss.filter (fun x => decide (x ≠ y)) ++ [(y.1, y.2.1, cX ++ cutS y.2.2 1)]).length ≤ 70 := by rw [List.length_append]; simp only [List.length_cons, List.length_nil]; (clear l1 cl pos ei c lo hE hr; omega)
      have g3 := nm_add (y := (y.1, y.2.1, cX ++ cutS y.2.2 1)) (nm_fil (p := fun x => decide (x ≠ y)) nm) (strOk_app cX_ok co)
      generalize ss.filter (fun x => decide (x ≠ y)) ++ [(y.1, y.2.1, cX ++ cutS y.2.2 1)] = ss' at *
      generalize ss.filter (fun x => decide (x ≠ y)) = s1 at *
      rcases h7 with rfl | rfl <;> simp (disch := first | omega | rfl) [g_L_turned_j4, eq_ints, c, view2, nn, dd, d, ll, ei, pos, ey, cc, y0, y1, y2, l1, l2, e, g1] <;> exact tu_j3 h6 (.inr rfl) hr g2 g3 hE lo
  · simp (disch := first | omega | rfl) [g_L_turned_j4, eq_ints, c]
    exact tu_j3 h6 h7 hr (by (clear c lo hE hr; omega)) nm hE lo
end
section
variable {nu : Int} {n h t last hs : Nat} {ps : List Path} {O : D} {R rs : List Run} {S ss : List Sign} {k6 k7 : Kd} {E : List Int} {x10 x11 x12 : Option (Kd × D)}
theorem tu_j5 (h6 : Kk k6) (h7 : Kk k7) (hr : rs.length ≤ 4000) (hn : ss.length ≤ 60) (nm : ∀ x ∈ ss, PyData.strOk x.2.2 = true) (hE : hs < E.length) (lo : -1 ≤ eAt E hs) (vn : ∀ x ∈ S, PyData.strOk x.2.2 = true ∧ x.2.2.length ≤ 12) :
    Wp (g_L_turned_j5 (evU nu n ps O h t R S last k6 rs k7 ss E hs [x10, x11, x12])) (runQ (TQ last)) := by
  have nn := ne_nil (plS fun x hx => (vn x hx).1)
  have ll : lenD [.lst (S.map signD)] = some (.fz, .int S.length) := by simp [lenD, lenL]
  by_cases c : nu % 6 = 2
  · by_cases d : S = []
    · subst d
      simp (disch := first | omega | rfl) [g_L_turned_j5, eq_ints, c, view2, nn]
      exact tu_j4 h6 h7 hr (by omega) nm hE lo vn
    · obtain ⟨y, hy, i, ei, ey⟩ := pickS' (f := signD) nu d
      have dd : S.map signD ≠ [] := by simpa using d
      have pos : 0 < (S.length : Int) := by have : 0 < S.length := List.length_pos_iff.2 d; omega
      have cc : compO (bName 2) (eOp neD (varR 2) (eOp idxD (eOp idxD (varR 0) (conR (.int 2))) (eOp modD (eOp fdivD (varR 1) (conR (.int 7))) (eCall lenD (aCons (eOp idxD (varR 0) (conR (.int 2))) aNil))))) (varR 2) [some (.fz, viewD h t R S), some (.fz, .int nu), none] (.ok (ss.map signD)) = .ok .ow (.lst ((ss.filter fun x => decide (x ≠ y)).map signD)) :=
        compO_fm (fun x => decide (x ≠ y)) signD (by simp [LIM]; omega) fun x hm => by
          refine ⟨_, rfl, ⟨.fz, ?_⟩, fun _ => ⟨.fz, by simp, ?_⟩⟩
          · simp (disch := first | omega | rfl) [view2, ll, pos, ei, ey, ne_signs (nm x hm) (vn y hy).1]
          · simp (disch := first | omega | rfl) []
      have fl := List.length_filter_le (fun x => decide (x ≠ y)) ss
      have g3 := nm_fil (p := fun x => decide (x ≠ y)) nm
      generalize ss.filter (fun x => decide (x ≠ y)) = s1 at *
      rcases h7 with rfl | rfl <;> simp (disch := first | omega | rfl) [g_L_turned_j5, eq_ints, c, view2, nn, dd, d, cc] <;> exact tu_j4 h6 (.inr rfl) hr (by omega) g3 hE lo vn
  · simp (disch := first | omega | rfl) [g_L_turned_j5, eq_ints, c]
    exact tu_j4 h6 h7 hr (by omega) nm hE lo vn
theorem tu_j6 (h6 : Kk k6) (h7 : Kk k7) (hr : rs.length ≤ 3900) (hn : ss.length ≤ 60) (nm : ∀ x ∈ ss, PyData.strOk x.2.2 = true) (hE : hs < E.length) (lo : -1 ≤ eAt E hs) (vn : ∀ x ∈ S, PyData.strOk x.2.2 = true ∧ x.2.2.length ≤ 12) (vr : ∀ r ∈ R, r.2.2.1 < r.2.2.2) :
    Wp (g_L_turned_j6 (evU nu n ps O h t R S last k6 rs k7 ss E hs [x10, x11, x12])) (runQ (TQ last)) := by
  have nn := ne_nil (plR R)
  have ll : lenD [.lst (R.map runD)] = some (.fz, .int R.length) := by simp [lenD, lenL]
  by_cases c : nu % 6 = 1
  · by_cases d : R = []
    · subst d
      simp (disch := first | omega | rfl) [g_L_turned_j6, eq_ints, c, view1, nn]
      exact tu_j5 h6 h7 (by omega) (by omega) nm hE lo vn
    · obtain ⟨y, hy, i, ei, ey⟩ := pickS' (f := runD) nu d
      have dd : R.map runD ≠ [] := by simpa using d
      have pos : 0 < (R.length : Int) := by have : 0 < R.length := List.length_pos_iff.2 d; omega
      have y0 : idxD (runD y) (.int 0) = some (.fz, .int y.1) := by simp [runD]
      have y1 : idxD (runD y) (.int 1) = some (.fz, .int y.2.1) := by simp [runD]
      have y2 : idxD (runD y) (.int 2) = some (.fz, .int y.2.2.1) := by simp [runD]
      have y3 : idxD (runD y) (.int 3) = some (.fz, .int y.2.2.2) := by simp [runD]
      obtain ⟨st, h1, es⟩ : ∃ st : Int, (st = 1 ∨ st = -1) ∧ idxD (.lst [.int 1, .int (-1)]) (.int (nu / 70 % 2)) = some (.fz, .int st) := by
        have : nu / 70 % 2 = 0 ∨ nu / 70 % 2 = 1 := by omega
        rcases this with z | z <;> rw [z]
        · exact ⟨1, .inl rfl, by simp⟩
        · exact ⟨-1, .inr rfl, by simp⟩
      have vy := vr y hy
      have e : D.tup [.int y.1, .int y.2.1, .int y.2.2.1, .int ((y.2.2.2 : Int) + st)] = runD (y.1, y.2.1, y.2.2.1, ((y.2.2.2 : Int) + st).toNat) := by
        have : (((y.2.2.2 : Int) + st).toNat : Int) = (y.2.2.2 : Int) + st := by omega
        simp only [runD, this]
      have cc := comp_neR (y := y) (A := rs) (by omega)
      have fl := List.length_filter_le (fun x => decide (x ≠ y)) rs
      have g1 : addD (.lst ((rs.filter fun x => decide (x ≠ y)).map runD)) (.lst [runD (y.1, y.2.1, y.2.2.1, ((y.2.2.2 : Int) + st).toNat)]) = some (.ow, .lst ((rs.filter (fun x => decide (x ≠ y)) ++ [(y.1, y.2.1, y.2.2.1, ((y.2.2.2 : Int) + st).toNat)]).map runD)) := add_run (by omega)
      have g2 : (rs.filter (fun x => decide (x ≠ y)) ++ [(y.1, y.2.1, y.2.2.1, ((y.2.2.2 : Int) + st).toNat)]).length ≤ 4000 := by rw [List.length_append]; simp only [List.length_cons, List.length_nil]; omega
      generalize rs.filter (fun x => decide (x ≠ y)) ++ [(y.1, y.2.1, y.2.2.1, ((y.2.2.2 : Int) + st).toNat)] = rs' at *
      generalize rs.filter (fun x => decide (x ≠ y)) = r1 at *
      rcases h6 with rfl | rfl <;> simp (disch := first | omega | rfl) [g_L_turned_j6, eq_ints, c, view1, nn, dd, d, ll, ei, pos, ey, es, cc, y0, y1, y2, y3, e, g1] <;> exact tu_j5 (.inr rfl) h7 g2 hn nm hE lo vn
  · simp (disch := first | omega | rfl) [g_L_turned_j6, eq_ints, c]
    exact tu_j5 h6 h7 (by omega) (by omega) nm hE lo vn
theorem turned_ok (h1 : 1 ≤ n) (h8 : n ≤ 8) (hl : last ≤ 60) (ht : t ≤ last) (hh : h < n) (tk : TaleOk n last rs ss) (hr : rs.length ≤ 3900) (hn : ss.length ≤ 60) (nm : ∀ x ∈ ss, PyData.strOk x.2.2 = true ∧ x.2.2.length ≤ 12) :
    TQ last (φ_L_turned [.int nu, netD n ps, taleD last rs ss, spotD h t]) := by
  obtain ⟨E, eo, es⟩ := lseen_ok (ps := ps) (h := h) (t := t) h1 h8 hl ht hh tk
  obtain ⟨E', eo', ee⟩ := ends_ok (ps := ps) (ss := ss) (h := h) (t := t) h1 h8 hl ht hh tk.all
  obtain rfl := eo'.uniq eo
  obtain ⟨hs, eh, hhs⟩ := emod_nat (nu / 7) (n := n) (by omega)
  have hE : hs < E'.length := by rw [eo.len]; exact hhs
  have lo := eo.low hs
  have nm1 : ∀ x ∈ ss, PyData.strOk x.2.2 = true := fun x hx => (nm x hx).1
  unfold viewOf at es
  have vn : ∀ x ∈ srtS (ss.filter (hS E')), PyData.strOk x.2.2 = true ∧ x.2.2.length ≤ 12 := fun x hx => nm x (List.mem_filter.1 (srtS_perm.mem_iff.1 hx)).1
  have vr : ∀ r ∈ srtR (rs.filter (hR E')), r.2.2.1 < r.2.2.2 := fun r hx => (tk.all r (List.mem_filter.1 (srtR_perm.mem_iff.1 hx)).1).2.2.1
  generalize srtR (rs.filter (hR E')) = Z at *
  generalize srtS (ss.filter (hS E')) = S at *
  have nn := ne_nil (plR Z)
  have ll : lenD [.lst (Z.map runD)] = some (.fz, .int Z.length) := by simp [lenD, lenL]
  have bt : ∀ ev : Ev, bTup 3 (bCons (bName 5) (bCons (bName 6) (bCons (bName 7) bNil))) (taleD last rs ss) ev = some (((ev.set 5 (some (.fz, .int last))).set 6 (some (.fz, .lst (rs.map runD)))).set 7 (some (.fz, .lst (ss.map signD)))) := fun _ => (rfl)
  refine run_el (φ_L_turned [.int nu, netD n ps, taleD last rs ss, spotD h t]) rfl ?_
  by_cases c : nu % 6 = 0
  · by_cases d : Z = []
    · subst d
      simp (disch := first | omega | rfl) [ev0, g_L_turned, es, bt, ee, net_n, eh, eq_ints, c, view1, nn]
      exact tu_j6 (.inl rfl) (.inl rfl) hr hn nm1 hE lo vn vr
    · obtain ⟨y, hy, i, ei, ey⟩ := pickS' (f := runD) nu d
      have dd : Z.map runD ≠ [] := by simpa using d
      have pos : 0 < (Z.length : Int) := by have : 0 < Z.length := List.length_pos_iff.2 d; omega
      have cc := comp_neR (y := y) (A := rs) (by omega)
      have fl := List.length_filter_le (fun x => decide (x ≠ y)) rs
      generalize rs.filter (fun x => decide (x ≠ y)) = r1 at *
      simp (disch := first | omega | rfl) [ev0, g_L_turned, es, bt, ee, net_n, eh, eq_ints, c, view1, nn, dd, d, ll, ei, pos, ey, cc]
      exact tu_j6 (.inr rfl) (.inl rfl) (by omega) hn nm1 hE lo vn vr
  · simp (disch := first | omega | rfl) [ev0, g_L_turned, es, bt, ee, net_n, eh, eq_ints, c]
    exact tu_j6 (.inl rfl) (.inl rfl) hr hn nm1 hE lo vn vr
end
theorem view_plS {h t : Nat} {R : List Run} {S : List Sign} (hs : ∀ x ∈ S, PyData.strOk x.2.2 = true) : pl 60 (viewD h t R S) = true := by
  have h1 : plL 58 (R.map runD) = true := plL_iff.2 fun d hd => by
    obtain ⟨r, _, rfl⟩ := List.mem_map.1 hd
    simp [runD, pl, plL]
  have h2 : plL 58 (S.map signD) = true := plL_iff.2 fun d hd => by
    obtain ⟨x, hx, rfl⟩ := List.mem_map.1 hd
    simp [signD, pl, plL, hs x hx]
  simp [viewD, pl, plL, spotD, h1, h2]
theorem tale_plS {last : Nat} {rs : List Run} {ss : List Sign} (hs : ∀ x ∈ ss, PyData.strOk x.2.2 = true) : pl 59 (taleD last rs ss) = true := by
  have h1 : plL 57 (rs.map runD) = true := plL_iff.2 fun d hd => by
    obtain ⟨r, _, rfl⟩ := List.mem_map.1 hd
    simp [runD, pl, plL]
  have h2 : plL 57 (ss.map signD) = true := plL_iff.2 fun d hd => by
    obtain ⟨x, hx, rfl⟩ := List.mem_map.1 hd
    simp [signD, pl, plL, hs x hx]
  simp [taleD, pl, plL, h1, h2]
theorem ne_bools (a : Bool) : neD (.bl a) (.bl a) = some (.fz, .bl false) := by cases a <;> rfl
theorem alike_gen {n h t : Nat} {ps : List Path} {T O V W : D} (hv : pl 60 V = true) (hw : pl 60 W = true) (h1 : φ_P_seen [netD n ps, T, spotD h t] = .ok .fz V) (h2 : φ_P_seen [netD n ps, O, spotD h t] = .ok .fz W) : φ_P_alike [netD n ps, T, O, spotD h t] = .ok .fz (.bl (decide (V = W))) := by
  have e := eqD_pl hv hw
  refine run_el (φ_P_alike [netD n ps, T, O, spotD h t]) rfl ?_
  simp (disch := first | omega | rfl) [ev0, g_P_alike, h1, h2, e]
theorem GoodB.tk {n last : Nat} {ps : List Path} {rs : List Run} {ss : List Sign} (ok : NetOk n ps) (g : GoodB n ps last rs ss) (h1 : rs.length ≤ 5000) (h2 : ss.length ≤ 100) : TaleOk n last rs ss := ⟨g.runs.all ok, g.runs.nd, h1, g.sh, g.snd, h2⟩
noncomputable def prE (x : D × D) : D := .tup [x.1, x.2]
section
variable {ns : List Int} {n h t last : Nat} {ps : List Path} {rs rs2 : List Run} {ss ss2 : List Sign} {nu : Int}
noncomputable abbrev evA (ns : List Int) (n : Nat) (ps : List Path) (T : D) (nu : Int) (h t : Nat) (O : D) (l : Ev) : Ev :=
  some (.fz, .scr (ns.map D.int)) :: some (.fz, netD n ps) :: some (.fz, T) :: some (.fz, .int nu) :: some (.fz, spotD h t) :: some (.fz, O) :: l
noncomputable def InvA (ns : List Int) (n : Nat) (ps : List Path) (T : D) (nu : Int) (h t : Nat) (O : D) (du : Bool) (_ : List (D × D)) (ev : Ev) : Prop := ∃ x8 x9 x10, ev = evA ns n ps T nu h t O [some (.fz, .bl du), some (.ow, .lst [T, O]), x8, x9, x10]
theorem law_j2 {last2 : Nat} (ok : NetOk n ps) (hl : last ≤ 60) (hl2 : last2 ≤ 60) (ht : t ≤ last) (ht2 : t ≤ last2) (hh : h < n) (tk : TaleOk n last rs ss) (tk2 : TaleOk n last2 rs2 ss2) (nm : ∀ x ∈ ss, PyData.strOk x.2.2 = true) (nm2 : ∀ x ∈ ss2, PyData.strOk x.2.2 = true) :
    Wp (g_law_j2 (evA ns n ps (taleD last rs ss) nu h t (taleD last2 rs2 ss2) [none, none, none, none, none])) (runQ fun x => x = .ok .fz (.bl true)) := by
  obtain ⟨gg, hgg⟩ : ∃ gg, gg = g_law_b1 := ⟨_, rfl⟩
  obtain ⟨E, eo, es⟩ := lseen_ok (ps := ps) (h := h) (t := t) ok.n1 ok.n8 hl ht hh tk
  obtain ⟨E2, eo2, es2⟩ := lseen_ok (ps := ps) (h := h) (t := t) ok.n1 ok.n8 hl2 ht2 hh tk2
  have ep := seen_ok (ps := ps) ok.n1 ok.n8 hl ht hh tk eo
  have ep2 := seen_ok (ps := ps) ok.n1 ok.n8 hl2 ht2 hh tk2 eo2
  have vp : pl 60 (viewOf h t E rs ss) = true := view_plS fun x hx => nm x (List.mem_filter.1 (srtS_perm.mem_iff.1 hx)).1
  have vp2 : pl 60 (viewOf h t E2 rs2 ss2) = true := view_plS fun x hx => nm2 x (List.mem_filter.1 (srtS_perm.mem_iff.1 hx)).1
  generalize viewOf h t E rs ss = V at *
  generalize viewOf h t E2 rs2 ss2 = W at *
  have q1 := eqD_pl vp vp2
  have tp := tale_plS (last := last) (rs := rs) nm
  have tp2 := tale_plS (last := last2) (rs := rs2) nm2
  have lp : pl 60 (.lst [taleD last rs ss, taleD last2 rs2 ss2]) = true := by simp [pl, plL, tp, tp2]
  have le : eqD (.lst [taleD last rs ss, taleD last2 rs2 ss2]) (.lst [taleD last rs ss, taleD last2 rs2 ss2]) = some (.fz, .bl true) := by rw [eqD_pl lp lp]; simp
  have t1 : D.tup [.int last, .lst (rs.map runD), .lst (ss.map signD)] = taleD last rs ss := rfl
  have t2 : D.tup [.int last2, .lst (rs2.map runD), .lst (ss2.map signD)] = taleD last2 rs2 ss2 := rfl
  have a1 := tale_last (last := last) (rs := rs) (ss := ss)
  have a2 := tale_runs (last := last) (rs := rs) (ss := ss)
  have a3 := tale_signs (last := last) (rs := rs) (ss := ss)
  have b1 := tale_last (last := last2) (rs := rs2) (ss := ss2)
  have b2 := tale_runs (last := last2) (rs := rs2) (ss := ss2)
  have b3 := tale_signs (last := last2) (rs := rs2) (ss := ss2)
  have m1 := alike_gen vp vp2 ep ep2
  have m2 := alike_gen vp2 vp ep2 ep
  generalize taleD last rs ss = T at *
  generalize taleD last2 rs2 ss2 = O at *
  have dd : decide (W = V) = decide (V = W) := by rw [decide_eq_decide]; exact eq_comm
  rw [dd] at m2
  generalize decide (V = W) = du at *
  have k0 : isiD [.bl du, .ty "bool"] = some (.fz, .bl true) := (rfl)
  simp (disch := first | omega | rfl) [g_law_j2, es, es2, q1, a1, a2, a3, b1, b2, b3, t1, t2]
  rw [← hgg]
  have e2 : [D.tup [T, O], D.tup [O, T]] = [(T, O), (O, T)].map prE := rfl
  rw [e2]
  refine wp_forM (InvA ns n ps T nu h t O du) ?_ ?_ ⟨_, _, _, rfl⟩
  · rintro ⟨a, b⟩ xs _ ⟨pre, hp⟩ ⟨x8, x9, x10, rfl⟩
    have hmem : (a, b) ∈ [(T, O), (O, T)] := by rw [hp]; simp
    have al : φ_P_alike [netD n ps, a, b, spotD h t] = .ok .fz (.bl du) := by
      simp at hmem
      rcases hmem with ⟨rfl, rfl⟩ | ⟨rfl, rfl⟩
      · exact m1
      · exact m2
    refine ⟨_, rfl, ?_⟩
    simp (disch := first | omega | rfl) [hgg, g_law_b1, al, k0, ne_bools]
    exact ⟨_, _, _, rfl⟩
  · rintro _ ⟨x8, x9, x10, rfl⟩
    simp (disch := first | omega | rfl) [g_law_j1, le]
theorem law_j3 (ok : NetOk n ps) (hps : ps.length ≤ 64) (hl : last ≤ 24) (ht : t ≤ last) (hh : h < n) (tk : TaleOk n last rs ss) (nm : ∀ x ∈ ss, PyData.strOk x.2.2 = true) (gb : GoodB n ps last rs2 ss2) (hr : rs2.length ≤ 4000) (hs : ss2.length ≤ 90) (nm2 : ∀ x ∈ ss2, PyData.strOk x.2.2 = true) :
    Wp (g_law_j3 (evA ns n ps (taleD last rs ss) nu h t (taleD last rs2 ss2) [none, none, none, none, none])) (runQ fun x => x = .ok .fz (.bl true)) := by
  obtain ⟨g2, hg2⟩ : ∃ g2, g2 = g_law_j2 := ⟨_, rfl⟩
  have q := fun (last2 : Nat) (h2 : last2 ≤ 60) (ht2 : t ≤ last2) (tk2 : TaleOk n last2 rs2 ss2) => law_j2 (ns := ns) (nu := nu) ok (show last ≤ 60 by omega) h2 ht ht2 hh tk tk2 nm nm2
  rw [← hg2] at q
  have tk2 := gb.tk ok (by omega) (by omega)
  by_cases c : nu / 150 % 2 = 1
  · obtain ⟨b, eg, hb⟩ := good_ok (last := last + 1) (rs := rs2) (ss := ss2) ok (by omega) (by omega) (by omega) nm2 (by omega)
    have t2 : D.tup [.int ((last : Int) + 1), .lst (rs2.map runD), .lst (ss2.map signD)] = taleD (last + 1) rs2 ss2 := by simp [taleD]
    cases b with
    | true =>
      have gb2 := hb.1 rfl
      simp (disch := first | omega | rfl) [g_law_j3, eq_ints, c, tale_last, tale_runs, tale_signs, t2, eg]
      rw [← hg2]
      exact q (last + 1) (by omega) (by omega) (gb2.tk ok (by omega) (by omega))
    | false =>
      simp (disch := first | omega | rfl) [g_law_j3, eq_ints, c, tale_last, tale_runs, tale_signs, t2, eg]
      rw [← hg2]
      exact q last (by omega) ht tk2
  · simp (disch := first | omega | rfl) [g_law_j3, eq_ints, c]
    rw [← hg2]
    exact q last (by omega) ht tk2
theorem law_j4 (ok : NetOk n ps) (hps : ps.length ≤ 64) (hl : last ≤ 24) (ht : t ≤ last) (hh : h < n) (gt : GoodB n ps last rs ss) (hr0 : rs.length ≤ 4000) (hs0 : ss.length ≤ 90) (nm : ∀ x ∈ ss, PyData.strOk x.2.2 = true) (hr : rs2.length ≤ 4000) (hs : ss2.length ≤ 90) (nm2 : ∀ x ∈ ss2, PyData.strOk x.2.2 = true) :
    Wp (g_law_j4 (evA ns n ps (taleD last rs ss) nu h t (taleD last rs2 ss2) [none, none, none, none, none])) (runQ fun x => x = .ok .fz (.bl true)) := by
  obtain ⟨g3, hg3⟩ : ∃ g3, g3 = g_law_j3 := ⟨_, rfl⟩
  have tk := gt.tk ok (by omega) (by omega)
  obtain ⟨b, eg, hb⟩ := good_ok (last := last) (rs := rs2) (ss := ss2) ok (by omega) (by omega) (by omega) nm2 (by omega)
  have q := fun (rs3 : List Run) (ss3 : List Sign) (g : GoodB n ps last rs3 ss3) (h1 : rs3.length ≤ 4000) (h2 : ss3.length ≤ 90) (h3 : ∀ x ∈ ss3, PyData.strOk x.2.2 = true) => law_j3 (ns := ns) (nu := nu) ok hps hl ht hh tk nm g h1 h2 h3
  rw [← hg3] at q
  cases b with
  | true =>
    simp (disch := first | omega | rfl) [g_law_j4, eg]
    rw [← hg3]
    exact q rs2 ss2 (hb.1 rfl) hr hs nm2
  | false =>
    simp (disch := first | omega | rfl) [g_law_j4, eg]
    rw [← hg3]
    exact q rs ss gt hr0 hs0 nm
end
theorem law_ok (ns : List Int) (hl : ns.length ≤ 63) : φ_law [.scr (ns.map D.int)] = .ok .fz (.bl true) := by
  obtain ⟨g4, hg4⟩ : ∃ g4, g4 = g_law_j4 := ⟨_, rfl⟩
  obtain ⟨n, ps, ok, hps, hnet⟩ := net_ok ns
  obtain ⟨last, rs, ss, gt, hlast, hrs, hss, htale⟩ := tale_ok ns ok hps
  have so := gt.signs
  have n1 := ok.n1
  have n8 := ok.n8
  have hr := gt.runs.all ok
  have hc4 := cell_okI (ns := ns) (j := 4) (i := 4) rfl
  have hm4 := mix_ok (cellF ns 4) 4 (by decide) (by decide)
  have hc5 := cell_okI (ns := ns) (j := 5) (i := 5) rfl
  have hm5 := mix_ok (cellF ns 5) 5 (by decide) (by decide)
  generalize mixF (cellF ns 4) 4 = nu at *
  generalize mixF (cellF ns 5) 5 = nu5 at *
  obtain ⟨h, eh, hh⟩ := emod_nat nu (n := n) (by omega)
  obtain ⟨t, et, ht⟩ := emod_nat (nu / 5) (n := last + 1) (by omega)
  have et : nu / 5 % ((last : Int) + 1) = t := by rw [← et]; simp
  have ht : t ≤ last := by omega
  obtain ⟨E, eo, _⟩ := ends_ok (ps := ps) (ss := ss) (h := h) (t := t) n1 n8 (by omega) ht hh hr
  obtain ⟨new, sn, no, du, sno, nl, sl, eoth⟩ := other_ok (ns := ns) (sh := 300) ok hps gt hlast hrs hss hh ht eo (by decide)
  have gb : GoodB n ps last rs ss := ⟨gt.runs, gt.due, so.h, so.t, so.nd⟩
  have bl := List.length_filter_le (hR E) rs
  have s0l := List.length_filter_le (hS E) ss
  have bsub : List.Sublist (rs.filter (hR E)) rs := List.filter_sublist
  have bmem : ∀ r ∈ rs.filter (hR E), r ∈ rs ∧ hR E r = true := fun r hr => List.mem_filter.1 hr
  have smem : ∀ x ∈ ss.filter (hS E), x ∈ ss ∧ hS E x = true := fun x hx => List.mem_filter.1 hx
  have snF : ∀ x ∈ sn, hS E x = false := fun x hx => by have := sno.far x hx; simp only [hS, decide_eq_false_iff_not]; omega
  have hrO : ∀ r ∈ rs.filter (hR E) ++ new, r.1 < n ∧ r.2.1 < n ∧ r.2.2.1 < r.2.2.2 ∧ r.2.2.2 ≤ last := fun r hm' => by
    rcases List.mem_append.1 hm' with z | z
    · exact hr r (bmem r z).1
    · obtain ⟨o, ho, _⟩ := no.path r z
      exact ⟨ok.s _ ho, ok.g _ ho, (no.turn r z).1, (no.turn r z).2⟩
  have ndO : ((rs.filter (hR E) ++ new).map rkey).Nodup := by
    rw [List.map_append, List.nodup_append]
    refine ⟨List.Pairwise.sublist (bsub.map rkey) gt.runs.nd, no.nd, fun a ha b hb z => ?_⟩
    subst z
    obtain ⟨r, hr', e⟩ := List.mem_map.1 hb
    exact no.ap r hr' (e ▸ ha)
  have sndO : (ss.filter (hS E) ++ sn).Nodup := by
    rw [List.nodup_append]
    refine ⟨nodup_filter so.nd, ?_, fun a ha b hb z => ?_⟩
    · have := List.pairwise_map.1 sno.nd
      exact this.imp fun h e => h (by rw [e])
    · subst z
      have := (smem a ha).2
      rw [snF a hb] at this; cases this
  have tkO : TaleOk n last (rs.filter (hR E) ++ new) (ss.filter (hS E) ++ sn) := ⟨hrO, ndO, by simp; omega, fun x hx => by
    rcases List.mem_append.1 hx with z | z
    · exact so.h x (smem x z).1
    · exact sno.h x z, sndO, by simp; omega⟩
  have lenO : (rs.filter (hR E) ++ new).length ≤ 3900 := by simp; omega
  have slenO : (ss.filter (hS E) ++ sn).length ≤ 60 := by simp; omega
  have nmO : ∀ x ∈ ss.filter (hS E) ++ sn, PyData.strOk x.2.2 = true ∧ x.2.2.length ≤ 12 := fun x hx => by
    have : nmOk x.2.2 = true := by
      rcases List.mem_append.1 hx with z | z
      · exact so.nm x (smem x z).1
      · exact sno.nm x z
    simp [nmOk] at this
    exact this.1
  have tu := turned_ok (nu := nu5) (ps := ps) n1 n8 (show last ≤ 60 by omega) ht hh tkO lenO slenO nmO
  have nm : ∀ x ∈ ss, PyData.strOk x.2.2 = true := fun x hx => nm_str (so.nm x hx)
  have eoth : φ_L_other [D.scr (List.map D.int ns), netD n ps, taleD last rs ss, spotD h t, D.int 300] = L3.R.ok Kd.fz (taleD last (rs.filter (hR E) ++ new) (ss.filter (hS E) ++ sn)) := eoth
  generalize rs.filter (hR E) ++ new = rO at *
  generalize ss.filter (hS E) ++ sn = sO at *
  have t0 : D.tup [.int h, .int t] = spotD h t := rfl
  have q := fun (rs2 : List Run) (ss2 : List Sign) (h1 : rs2.length ≤ 4000) (h2 : ss2.length ≤ 90) (h3 : ∀ x ∈ ss2, PyData.strOk x.2.2 = true) => law_j4 (ns := ns) (nu := nu) ok hps hlast ht hh gb (by omega) (by omega) nm h1 h2 h3
  rw [← hg4] at q
  refine run_el (φ_law [.scr (ns.map D.int)]) rfl ?_
  by_cases c : 0 < nu / 50 % 3
  · obtain ⟨rs', ss', eu, h1, h2, h3⟩ := tu
    simp (disch := first | omega | rfl) [ev0, g_law, hnet, htale, net_n, tale_last, hc4, hm4, hc5, hm5, eh, et, t0, eoth, c, eu]
    rw [← hg4]
    exact q rs' ss' h1 h2 h3
  · simp (disch := first | omega | rfl) [ev0, g_law, hnet, htale, net_n, tale_last, hc4, hm4, eh, et, t0, eoth, c]
    rw [← hg4]
    exact q rO sO (by omega) (by omega) fun x hx => (nmO x hx).1

theorem all_mk {l : PySem.W.OpenLaw} {w : World} {K : PySem.W.Frag} {h : Heap} {mg : Str → Option Value} {fa f0 f1 f2 f3 f4 f5 f6 f7 f8 f9 f10 f11 f12 f13 f14 f15 : Addr} (X : K.In h) (G : h.Ns mainGlobals mg) (hfa : mg "law" = some (.ref fa))
    {od0 an0 : Option Addr} {sl0 : Array (Option Value)} {oc0 kV0 dc0 pm0 cd0 ct0 : Value}
    (a0 : PySem.W.nsIn K mainGlobals "_law_cell_at" = some (some (.ref f0))) (l0 : K.lookup f0 = some ⟨oc0, od0, .func (PySem.W.fnOf "_law_cell_at" "_law_cell_at" (defArgs s_L_cell_at) (defBody s_L_cell_at) (defScope s_L_cell_at) .none kV0 dc0 pm0 an0 cd0 ct0), sl0⟩) (c0 : PySem.W.codeIn K cd0 "_law_cell_at" = true) (k0 : PySem.W.keepIn K (.ref f0) = true)
    {od1 an1 : Option Addr} {sl1 : Array (Option Value)} {oc1 kV1 dc1 pm1 cd1 ct1 : Value}
    (a1 : PySem.W.nsIn K mainGlobals "_law_good" = some (some (.ref f1))) (l1 : K.lookup f1 = some ⟨oc1, od1, .func (PySem.W.fnOf "_law_good" "_law_good" (defArgs s_L_good) (defBody s_L_good) (defScope s_L_good) .none kV1 dc1 pm1 an1 cd1 ct1), sl1⟩) (c1 : PySem.W.codeIn K cd1 "_law_good" = true) (k1 : PySem.W.keepIn K (.ref f1) = true)
    {od2 an2 : Option Addr} {sl2 : Array (Option Value)} {oc2 kV2 dc2 pm2 cd2 ct2 : Value}
    (a2 : PySem.W.nsIn K mainGlobals "_law_mix" = some (some (.ref f2))) (l2 : K.lookup f2 = some ⟨oc2, od2, .func (PySem.W.fnOf "_law_mix" "_law_mix" (defArgs s_L_mix) (defBody s_L_mix) (defScope s_L_mix) .none kV2 dc2 pm2 an2 cd2 ct2), sl2⟩) (c2 : PySem.W.codeIn K cd2 "_law_mix" = true) (k2 : PySem.W.keepIn K (.ref f2) = true)
    {od3 an3 : Option Addr} {sl3 : Array (Option Value)} {oc3 kV3 dc3 pm3 cd3 ct3 : Value}
    (a3 : PySem.W.nsIn K mainGlobals "_law_net" = some (some (.ref f3))) (l3 : K.lookup f3 = some ⟨oc3, od3, .func (PySem.W.fnOf "_law_net" "_law_net" (defArgs s_L_net) (defBody s_L_net) (defScope s_L_net) .none kV3 dc3 pm3 an3 cd3 ct3), sl3⟩) (c3 : PySem.W.codeIn K cd3 "_law_net" = true) (k3 : PySem.W.keepIn K (.ref f3) = true)
    {od4 an4 : Option Addr} {sl4 : Array (Option Value)} {oc4 kV4 dc4 pm4 cd4 ct4 : Value}
    (a4 : PySem.W.nsIn K mainGlobals "_law_ends" = some (some (.ref f4))) (l4 : K.lookup f4 = some ⟨oc4, od4, .func (PySem.W.fnOf "_law_ends" "_law_ends" (defArgs s_L_ends) (defBody s_L_ends) (defScope s_L_ends) .none kV4 dc4 pm4 an4 cd4 ct4), sl4⟩) (c4 : PySem.W.codeIn K cd4 "_law_ends" = true) (k4 : PySem.W.keepIn K (.ref f4) = true)
    {od5 an5 : Option Addr} {sl5 : Array (Option Value)} {oc5 kV5 dc5 pm5 cd5 ct5 : Value}
    (a5 : PySem.W.nsIn K mainGlobals "_law_other" = some (some (.ref f5))) (l5 : K.lookup f5 = some ⟨oc5, od5, .func (PySem.W.fnOf "_law_other" "_law_other" (defArgs s_L_other) (defBody s_L_other) (defScope s_L_other) .none kV5 dc5 pm5 an5 cd5 ct5), sl5⟩) (c5 : PySem.W.codeIn K cd5 "_law_other" = true) (k5 : PySem.W.keepIn K (.ref f5) = true)
    {od6 an6 : Option Addr} {sl6 : Array (Option Value)} {oc6 kV6 dc6 pm6 cd6 ct6 : Value}
    (a6 : PySem.W.nsIn K mainGlobals "_law_seen" = some (some (.ref f6))) (l6 : K.lookup f6 = some ⟨oc6, od6, .func (PySem.W.fnOf "_law_seen" "_law_seen" (defArgs s_L_seen) (defBody s_L_seen) (defScope s_L_seen) .none kV6 dc6 pm6 an6 cd6 ct6), sl6⟩) (c6 : PySem.W.codeIn K cd6 "_law_seen" = true) (k6 : PySem.W.keepIn K (.ref f6) = true)
    {od7 an7 : Option Addr} {sl7 : Array (Option Value)} {oc7 kV7 dc7 pm7 cd7 ct7 : Value}
    (a7 : PySem.W.nsIn K mainGlobals "_law_signs" = some (some (.ref f7))) (l7 : K.lookup f7 = some ⟨oc7, od7, .func (PySem.W.fnOf "_law_signs" "_law_signs" (defArgs s_L_signs) (defBody s_L_signs) (defScope s_L_signs) .none kV7 dc7 pm7 an7 cd7 ct7), sl7⟩) (c7 : PySem.W.codeIn K cd7 "_law_signs" = true) (k7 : PySem.W.keepIn K (.ref f7) = true)
    {od8 an8 : Option Addr} {sl8 : Array (Option Value)} {oc8 kV8 dc8 pm8 cd8 ct8 : Value}
    (a8 : PySem.W.nsIn K mainGlobals "_law_tale" = some (some (.ref f8))) (l8 : K.lookup f8 = some ⟨oc8, od8, .func (PySem.W.fnOf "_law_tale" "_law_tale" (defArgs s_L_tale) (defBody s_L_tale) (defScope s_L_tale) .none kV8 dc8 pm8 an8 cd8 ct8), sl8⟩) (c8 : PySem.W.codeIn K cd8 "_law_tale" = true) (k8 : PySem.W.keepIn K (.ref f8) = true)
    {od9 an9 : Option Addr} {sl9 : Array (Option Value)} {oc9 kV9 dc9 pm9 cd9 ct9 : Value}
    (a9 : PySem.W.nsIn K mainGlobals "_law_turned" = some (some (.ref f9))) (l9 : K.lookup f9 = some ⟨oc9, od9, .func (PySem.W.fnOf "_law_turned" "_law_turned" (defArgs s_L_turned) (defBody s_L_turned) (defScope s_L_turned) .none kV9 dc9 pm9 an9 cd9 ct9), sl9⟩) (c9 : PySem.W.codeIn K cd9 "_law_turned" = true) (k9 : PySem.W.keepIn K (.ref f9) = true)
    {od10 an10 : Option Addr} {sl10 : Array (Option Value)} {oc10 kV10 dc10 pm10 cd10 ct10 : Value}
    (a10 : PySem.W.nsIn K mainGlobals "come_of" = some (some (.ref f10))) (l10 : K.lookup f10 = some ⟨oc10, od10, .func (PySem.W.fnOf "come_of" "come_of" (defArgs s_P_come_of) (defBody s_P_come_of) (defScope s_P_come_of) .none kV10 dc10 pm10 an10 cd10 ct10), sl10⟩) (c10 : PySem.W.codeIn K cd10 "come_of" = true) (k10 : PySem.W.keepIn K (.ref f10) = true)
    {od11 an11 : Option Addr} {sl11 : Array (Option Value)} {oc11 kV11 dc11 pm11 cd11 ct11 : Value}
    (a11 : PySem.W.nsIn K mainGlobals "walk_back" = some (some (.ref f11))) (l11 : K.lookup f11 = some ⟨oc11, od11, .func (PySem.W.fnOf "walk_back" "walk_back" (defArgs s_P_walk_back) (defBody s_P_walk_back) (defScope s_P_walk_back) .none kV11 dc11 pm11 an11 cd11 ct11), sl11⟩) (c11 : PySem.W.codeIn K cd11 "walk_back" = true) (k11 : PySem.W.keepIn K (.ref f11) = true)
    {od12 an12 : Option Addr} {sl12 : Array (Option Value)} {oc12 kV12 dc12 pm12 cd12 ct12 : Value}
    (a12 : PySem.W.nsIn K mainGlobals "heard_by" = some (some (.ref f12))) (l12 : K.lookup f12 = some ⟨oc12, od12, .func (PySem.W.fnOf "heard_by" "heard_by" (defArgs s_P_heard_by) (defBody s_P_heard_by) (defScope s_P_heard_by) .none kV12 dc12 pm12 an12 cd12 ct12), sl12⟩) (c12 : PySem.W.codeIn K cd12 "heard_by" = true) (k12 : PySem.W.keepIn K (.ref f12) = true)
    {od13 an13 : Option Addr} {sl13 : Array (Option Value)} {oc13 kV13 dc13 pm13 cd13 ct13 : Value}
    (a13 : PySem.W.nsIn K mainGlobals "seen" = some (some (.ref f13))) (l13 : K.lookup f13 = some ⟨oc13, od13, .func (PySem.W.fnOf "seen" "seen" (defArgs s_P_seen) (defBody s_P_seen) (defScope s_P_seen) .none kV13 dc13 pm13 an13 cd13 ct13), sl13⟩) (c13 : PySem.W.codeIn K cd13 "seen" = true) (k13 : PySem.W.keepIn K (.ref f13) = true)
    {od14 an14 : Option Addr} {sl14 : Array (Option Value)} {oc14 kV14 dc14 pm14 cd14 ct14 : Value}
    (a14 : PySem.W.nsIn K mainGlobals "alike" = some (some (.ref f14))) (l14 : K.lookup f14 = some ⟨oc14, od14, .func (PySem.W.fnOf "alike" "alike" (defArgs s_P_alike) (defBody s_P_alike) (defScope s_P_alike) .none kV14 dc14 pm14 an14 cd14 ct14), sl14⟩) (c14 : PySem.W.codeIn K cd14 "alike" = true) (k14 : PySem.W.keepIn K (.ref f14) = true)
    {od15 an15 : Option Addr} {sl15 : Array (Option Value)} {oc15 kV15 dc15 pm15 cd15 ct15 : Value}
    (a15 : PySem.W.nsIn K mainGlobals "law" = some (some (.ref f15))) (l15 : K.lookup f15 = some ⟨oc15, od15, .func (PySem.W.fnOf "law" "law" (defArgs s_law) (defBody s_law) (defScope s_law) .none kV15 dc15 pm15 an15 cd15 ct15), sl15⟩) (c15 : PySem.W.codeIn K cd15 "law" = true) (k15 : PySem.W.keepIn K (.ref f15) = true)
    (z_abs : PySem.W.nsIn K mainGlobals "abs" = some none)
    (z_bool : PySem.W.nsIn K mainGlobals "bool" = some none)
    (z_isinstance : PySem.W.nsIn K mainGlobals "isinstance" = some none)
    (z_len : PySem.W.nsIn K mainGlobals "len" = some none)
    (z_list : PySem.W.nsIn K mainGlobals "list" = some none)
    (z_max : PySem.W.nsIn K mainGlobals "max" = some none)
    (z_min : PySem.W.nsIn K mainGlobals "min" = some none)
    (z_range : PySem.W.nsIn K mainGlobals "range" = some none)
    (z_sorted : PySem.W.nsIn K mainGlobals "sorted" = some none)
    (z_tuple : PySem.W.nsIn K mainGlobals "tuple" = some none)
    : ∃ fd : FuncData, (∀ (s : Shared) (v : Value), BindsTo s fd ⟨[v], []⟩ [("_law_script", v)]) ∧ ∀ base : Heap, K.In base → base.Ns mainGlobals mg → FnOk l.prog w K mg base CX0 7 fa fd ["_law_script"] (spV0 K φ_law 1) := by
  have e := hfa.symm.trans (PySem.W.mg_of X G a15)
  cases e
  have m_abs := PySem.W.mg_none_of X G z_abs
  have m_bool := PySem.W.mg_none_of X G z_bool
  have m_isinstance := PySem.W.mg_none_of X G z_isinstance
  have m_len := PySem.W.mg_none_of X G z_len
  have m_list := PySem.W.mg_none_of X G z_list
  have m_max := PySem.W.mg_none_of X G z_max
  have m_min := PySem.W.mg_none_of X G z_min
  have m_range := PySem.W.mg_none_of X G z_range
  have m_sorted := PySem.W.mg_none_of X G z_sorted
  have m_tuple := PySem.W.mg_none_of X G z_tuple
  have F0 := fun_mk (st := s_L_cell_at) l0 c0 k0
  have b0 := F0.binds (ps := ps_L_cell_at) fun _ _ _ _ _ _ us hl => match us, hl with | [_, _], _ => rfl
  have F1 := fun_mk (st := s_L_good) l1 c1 k1
  have b1 := F1.binds (ps := ps_L_good) fun _ _ _ _ _ _ us hl => match us, hl with | [_, _], _ => rfl
  have F2 := fun_mk (st := s_L_mix) l2 c2 k2
  have b2 := F2.binds (ps := ps_L_mix) fun _ _ _ _ _ _ us hl => match us, hl with | [_, _], _ => rfl
  have F3 := fun_mk (st := s_L_net) l3 c3 k3
  have b3 := F3.binds (ps := ps_L_net) fun _ _ _ _ _ _ us hl => match us, hl with | [_], _ => rfl
  have F4 := fun_mk (st := s_L_ends) l4 c4 k4
  have b4 := F4.binds (ps := ps_L_ends) fun _ _ _ _ _ _ us hl => match us, hl with | [_, _, _], _ => rfl
  have F5 := fun_mk (st := s_L_other) l5 c5 k5
  have b5 := F5.binds (ps := ps_L_other) fun _ _ _ _ _ _ us hl => match us, hl with | [_, _, _, _, _], _ => rfl
  have F6 := fun_mk (st := s_L_seen) l6 c6 k6
  have b6 := F6.binds (ps := ps_L_seen) fun _ _ _ _ _ _ us hl => match us, hl with | [_, _, _], _ => rfl
  have F7 := fun_mk (st := s_L_signs) l7 c7 k7
  have b7 := F7.binds (ps := ps_L_signs) fun _ _ _ _ _ _ us hl => match us, hl with | [_, _, _], _ => rfl
  have F8 := fun_mk (st := s_L_tale) l8 c8 k8
  have b8 := F8.binds (ps := ps_L_tale) fun _ _ _ _ _ _ us hl => match us, hl with | [_, _], _ => rfl
  have F9 := fun_mk (st := s_L_turned) l9 c9 k9
  have b9 := F9.binds (ps := ps_L_turned) fun _ _ _ _ _ _ us hl => match us, hl with | [_, _, _, _], _ => rfl
  have F10 := fun_mk (st := s_P_come_of) l10 c10 k10
  have b10 := F10.binds (ps := ps_P_come_of) fun _ _ _ _ _ _ us hl => match us, hl with | [_], _ => rfl
  have F11 := fun_mk (st := s_P_walk_back) l11 c11 k11
  have b11 := F11.binds (ps := ps_P_walk_back) fun _ _ _ _ _ _ us hl => match us, hl with | [_, _, _], _ => rfl
  have F12 := fun_mk (st := s_P_heard_by) l12 c12 k12
  have b12 := F12.binds (ps := ps_P_heard_by) fun _ _ _ _ _ _ us hl => match us, hl with | [_, _, _], _ => rfl
  have F13 := fun_mk (st := s_P_seen) l13 c13 k13
  have b13 := F13.binds (ps := ps_P_seen) fun _ _ _ _ _ _ us hl => match us, hl with | [_, _, _], _ => rfl
  have F14 := fun_mk (st := s_P_alike) l14 c14 k14
  have b14 := F14.binds (ps := ps_P_alike) fun _ _ _ _ _ _ us hl => match us, hl with | [_, _, _, _], _ => rfl
  have F15 := fun_mk (st := s_law) l15 c15 k15
  refine ⟨PySem.W.fnOf "law" "law" (defArgs s_law) (defBody s_law) (defScope s_law) .none kV15 dc15 pm15 an15 cd15 ct15, fun s v => .of_eq rfl, fun base _ _ => ?_⟩
  have C_L_cell_at : Callee l.prog w K mg base 1 "_law_cell_at" 2 φ_L_cell_at := ⟨_, _, _, ok_L_cell_at F0 m_len, b0, PySem.W.mg_of X G a0, k0⟩
  have C_L_good : Callee l.prog w K mg base 1 "_law_good" 2 φ_L_good := ⟨_, _, _, ok_L_good F1 m_isinstance m_len m_range m_tuple, b1, PySem.W.mg_of X G a1, k1⟩
  have C_L_mix : Callee l.prog w K mg base 1 "_law_mix" 2 φ_L_mix := ⟨_, _, _, ok_L_mix F2 , b2, PySem.W.mg_of X G a2, k2⟩
  have C_L_net : Callee l.prog w K mg base 2 "_law_net" 1 φ_L_net := ⟨_, _, _, ok_L_net F3 m_abs m_range C_L_cell_at C_L_mix, b3, PySem.W.mg_of X G a3, k3⟩
  have C_L_ends : Callee l.prog w K mg base 1 "_law_ends" 3 φ_L_ends := ⟨_, _, _, ok_L_ends F4 , b4, PySem.W.mg_of X G a4, k4⟩
  have C_L_other : Callee l.prog w K mg base 2 "_law_other" 5 φ_L_other := ⟨_, _, _, ok_L_other F5 m_max m_min m_range C_L_cell_at C_L_ends C_L_mix, b5, PySem.W.mg_of X G a5, k5⟩
  have C_L_seen : Callee l.prog w K mg base 2 "_law_seen" 3 φ_L_seen := ⟨_, _, _, ok_L_seen F6 m_sorted C_L_ends, b6, PySem.W.mg_of X G a6, k6⟩
  have C_L_signs : Callee l.prog w K mg base 2 "_law_signs" 3 φ_L_signs := ⟨_, _, _, ok_L_signs F7 m_range C_L_cell_at C_L_mix, b7, PySem.W.mg_of X G a7, k7⟩
  have C_L_tale : Callee l.prog w K mg base 3 "_law_tale" 2 φ_L_tale := ⟨_, _, _, ok_L_tale F8 m_min m_range C_L_cell_at C_L_mix C_L_signs, b8, PySem.W.mg_of X G a8, k8⟩
  have C_L_turned : Callee l.prog w K mg base 3 "_law_turned" 4 φ_L_turned := ⟨_, _, _, ok_L_turned F9 m_len C_L_ends C_L_seen, b9, PySem.W.mg_of X G a9, k9⟩
  have C_P_come_of : Callee l.prog w K mg base 1 "come_of" 1 φ_P_come_of := ⟨_, _, _, ok_P_come_of F10 , b10, PySem.W.mg_of X G a10, k10⟩
  have C_P_walk_back : Callee l.prog w K mg base 3 "walk_back" 3 φ_P_walk_back := ⟨_, _, _, ok_P_walk_back F11 m_sorted C_P_come_of, b11, PySem.W.mg_of X G a11, k11⟩
  have C_P_heard_by : Callee l.prog w K mg base 4 "heard_by" 3 φ_P_heard_by := ⟨_, _, _, ok_P_heard_by F12 C_P_walk_back, b12, PySem.W.mg_of X G a12, k12⟩
  have C_P_seen : Callee l.prog w K mg base 5 "seen" 3 φ_P_seen := ⟨_, _, _, ok_P_seen F13 m_sorted C_P_heard_by, b13, PySem.W.mg_of X G a13, k13⟩
  have C_P_alike : Callee l.prog w K mg base 6 "alike" 4 φ_P_alike := ⟨_, _, _, ok_P_alike F14 C_P_seen, b14, PySem.W.mg_of X G a14, k14⟩
  exact ok_law F15 m_bool m_isinstance m_list C_L_cell_at C_L_good C_L_mix C_L_net C_L_other C_L_seen C_L_tale C_L_turned C_P_alike
theorem walk {l : PySem.W.OpenLaw} {q : Program} {loose : List Str} {XP : (Str → Option Value) → Heap → Prop} {YP : World → Heap → Prop} {d : DefRec} {K : Params → PySem.W.Frag} (hn : l.most = some 63) (hdf : d.params.defaults = [])
    (hY : ∀ (w : World) (h : Heap), YP w h → (K w.params).In h)
    (F : ∀ (w : World) (mg : Str → Option Value) (fa : Addr) (h : Heap), (K w.params).In h → h.Ns mainGlobals mg → mg d.name = some (.ref fa) →
      ∃ fd : FuncData, (∀ (s : Shared) (u : Value), BindsTo s fd ⟨[u], []⟩ [("_law_script", u)]) ∧ ∀ base : Heap, (K w.params).In base → base.Ns mainGlobals mg → FnOk l.prog w (K w.params) mg base CX0 7 fa fd ["_law_script"] (spV0 (K w.params) φ_law 1)) :
    PySem.W.WalkO q loose XP YP l.row.toRowW d [] (fun f vs => PySem.call f vs) :=
  L2.walk_ofK (n := 63) (k := 7) (x := "_law_script") (CX := CX0) (sp := fun K => spV0 K φ_law 1) hn (by decide) hdf ⟨rfl, by decide, by decide⟩ hY F
    (fun K H a ns hl _ hS => L3.law_sp hS (law_ok ns hl)) fun _ _ _ _ z => z

end My
open PySem PySem.W PyProof.Rows
set_option maxRecDepth 100000 in
set_option maxHeartbeats 0 in
theorem PySem.Challenge.cw_hearsay_k24_alike_holds : PySem.Challenge.rw_hearsay_k24_alike.Holds := by
  w_on; o_law; k_head; (case hw => w_witness2)
  k_fill
  refine My.walk (l := PySem.Challenge.rw_hearsay_k24_alike) rfl rfl (fun w h Y => PySem.W.kIn_of Y) ?F
  case F =>
    intro w mg fa h KX G hmg
    refine' My.all_mk KX G hmg ?a0 ?l0 ?c0 ?k0 ?a1 ?l1 ?c1 ?k1 ?a2 ?l2 ?c2 ?k2 ?a3 ?l3 ?c3 ?k3 ?a4 ?l4 ?c4 ?k4 ?a5 ?l5 ?c5 ?k5 ?a6 ?l6 ?c6 ?k6 ?a7 ?l7 ?c7 ?k7 ?a8 ?l8 ?c8 ?k8 ?a9 ?l9 ?c9 ?k9 ?a10 ?l10 ?c10 ?k10 ?a11 ?l11 ?c11 ?k11 ?a12 ?l12 ?c12 ?k12 ?a13 ?l13 ?c13 ?k13 ?a14 ?l14 ?c14 ?k14 ?a15 ?l15 ?c15 ?k15 ?z_abs ?z_bool ?z_isinstance ?z_len ?z_list ?z_max ?z_min ?z_range ?z_sorted ?z_tuple
    (case a0 => k_is)
    (case l0 => k_is)
    (case c0 => k_is)
    (case k0 => k_is)
    (case a1 => k_is)
    (case l1 => k_is)
    (case c1 => k_is)
    (case k1 => k_is)
    (case a2 => k_is)
    (case l2 => k_is)
    (case c2 => k_is)
    (case k2 => k_is)
    (case a3 => k_is)
    (case l3 => k_is)
    (case c3 => k_is)
    (case k3 => k_is)
    (case a4 => k_is)
    (case l4 => k_is)
    (case c4 => k_is)
    (case k4 => k_is)
    (case a5 => k_is)
    (case l5 => k_is)
    (case c5 => k_is)
    (case k5 => k_is)
    (case a6 => k_is)
    (case l6 => k_is)
    (case c6 => k_is)
    (case k6 => k_is)
    (case a7 => k_is)
    (case l7 => k_is)
    (case c7 => k_is)
    (case k7 => k_is)
    (case a8 => k_is)
    (case l8 => k_is)
    (case c8 => k_is)
    (case k8 => k_is)
    (case a9 => k_is)
    (case l9 => k_is)
    (case c9 => k_is)
    (case k9 => k_is)
    (case a10 => k_is)
    (case l10 => k_is)
    (case c10 => k_is)
    (case k10 => k_is)
    (case a11 => k_is)
    (case l11 => k_is)
    (case c11 => k_is)
    (case k11 => k_is)
    (case a12 => k_is)
    (case l12 => k_is)
    (case c12 => k_is)
    (case k12 => k_is)
    (case a13 => k_is)
    (case l13 => k_is)
    (case c13 => k_is)
    (case k13 => k_is)
    (case a14 => k_is)
    (case l14 => k_is)
    (case c14 => k_is)
    (case k14 => k_is)
    (case a15 => k_is)
    (case l15 => k_is)
    (case c15 => k_is)
    (case k15 => k_is)
    (case z_abs => k_is)
    (case z_bool => k_is)
    (case z_isinstance => k_is)
    (case z_len => k_is)
    (case z_list => k_is)
    (case z_max => k_is)
    (case z_min => k_is)
    (case z_range => k_is)
    (case z_sorted => k_is)
    (case z_tuple => k_is)


