import PyProof.Rows.All
import Wide.All
import OpenK.AllK
import Wide.FinOn
import Lean
import PyProof.EqAt
import PyProof.EqKinds
import PyProof.TupleCall
import KE.KSortTup
import PyProof.Rows.CountFlat
import PyProof.SliceStr2
import KE.RegKIsAll
import PySem.Challenge.RW_hearsay_k12_faults_in_order
set_option Elab.async false
set_option linter.all false
set_option maxRecDepth 100000
namespace L2
open PySem PySem.Spec PyProof.Rows
noncomputable abbrev Key := Sum Int Str
noncomputable def keyIs : Key → Value → Bool
  | .inl k, v => Value.isInt k v
  | .inr x, v => Value.isStrOf x v
noncomputable def keyH (w : World) : Key → Int
  | .inl k => hashInt k
  | .inr x => hashStr w x
theorem keyIs_shape : ∀ {k : Key} {v : Value}, keyIs k v = true → (∃ i t, k = Sum.inl i ∧ v = Value.int i t) ∨ (∃ x t, k = Sum.inr x ∧ v = Value.str x t)
  | .inl i, v, h => by
    obtain ⟨t, e⟩ := Value.isInt_shape (k := i) (v := v) h
    exact .inl ⟨i, t, rfl, e⟩
  | .inr x, v, h => by
    obtain ⟨t, e⟩ := Value.isStrOf_shape (x := x) (v := v) h
    exact .inr ⟨x, t, rfl, e⟩
theorem keyIs_int (i : Int) (t : Tok) : keyIs (.inl i) (.int i t) = true := by simp [keyIs, Value.isInt]
theorem keyIs_str (x : Str) (t : Tok) : keyIs (.inr x) (.str x t) = true := by simp [keyIs, Value.isStrOf]
theorem key_ll (a b : Int) : decide ((Sum.inl a : Key) = Sum.inl b) = (a == b) := by
  by_cases e : a = b
  · subst e; simp
  · have h : ¬ (Sum.inl a : Key) = Sum.inl b := fun q => e (Sum.inl.inj q)
    rw [decide_eq_false h]
    exact (beq_eq_false_iff_ne.mpr e).symm
theorem key_rr (a b : Str) : decide ((Sum.inr a : Key) = Sum.inr b) = decide (a = b) := by
  by_cases e : a = b
  · subst e; simp
  · have h : ¬ (Sum.inr a : Key) = Sum.inr b := fun q => e (Sum.inr.inj q)
    rw [decide_eq_false h, decide_eq_false e]
theorem key_lr (a : Int) (b : Str) : decide ((Sum.inl a : Key) = Sum.inr b) = false := decide_eq_false (fun q => nomatch q)
theorem key_rl (a : Str) (b : Int) : decide ((Sum.inr a : Key) = Sum.inl b) = false := decide_eq_false (fun q => nomatch q)

noncomputable def mixKind (prog : Program) (w : World) : PySem.KeyKind prog w Key where
  is := keyIs
  hash := keyH w
  inj := fun v a b ha hb => by
    rcases keyIs_shape ha with ⟨i, t, rfl, rfl⟩ | ⟨x, t, rfl, rfl⟩
    · rcases keyIs_shape hb with ⟨j, u, rfl, e⟩ | ⟨y, u, rfl, e⟩
      · injection e with e1 _; rw [e1]
      · exact nomatch e
    · rcases keyIs_shape hb with ⟨j, u, rfl, e⟩ | ⟨y, u, rfl, e⟩
      · exact nomatch e
      · injection e with e1 _; rw [e1]
  byValue := fun k v h => by
    rcases keyIs_shape h with ⟨i, t, rfl, rfl⟩ | ⟨x, t, rfl, rfl⟩ <;> rfl
  pyHash := fun hv h => by
    rcases keyIs_shape hv with ⟨i, t, rfl, rfl⟩ | ⟨x, t, rfl, rfl⟩
    · exact wpAny_pyHash_int h
    · exact wpAny_pyHash_str h
  eqBool := fun hu hv h => by
    rcases keyIs_shape hu with ⟨i, t, rfl, rfl⟩ | ⟨x, t, rfl, rfl⟩
    · rcases keyIs_shape hv with ⟨j, u, rfl, rfl⟩ | ⟨y, u, rfl, rfl⟩
      · rw [key_ll] at h; exact wpAny_eqBool_int h
      · rw [key_lr] at h; exact SeqAt.EqAt.int_str i t y u _ _ _ _ h
    · rcases keyIs_shape hv with ⟨j, u, rfl, rfl⟩ | ⟨y, u, rfl, rfl⟩
      · rw [key_rl] at h; exact SeqAt.EqAt.str_int x t j u _ _ _ _ h
      · rw [key_rr] at h; exact wpAny_eqBool_str h
  «strs» := fun k x t v h => by
    rcases keyIs_shape h with ⟨i, u, rfl, e⟩ | ⟨y, u, rfl, e⟩
    · exact nomatch e
    · injection e with e1 _
      subst e1
      cases v <;> rfl

theorem mixKind_int (prog : Program) (w : World) (i : Int) (t : Tok) : (mixKind prog w).is (.inl i) (.int i t) = true := keyIs_int i t
theorem mixKind_str (prog : Program) (w : World) (x : Str) (t : Tok) : (mixKind prog w).is (.inr x) (.str x t) = true := keyIs_str x t
end L2
namespace L2
open PySem PySem.Spec PyProof.Rows
inductive V where
  | non | bl (b : Bool) | int (i : Int) | str (x : Str) | byt (b : Array UInt8) | flt (b : UInt64) | ref (a : Addr) | ty (n : String)
  deriving DecidableEq

noncomputable def RelV : V → Value → Prop
  | .non, u => u = Value.none
  | .bl b, u => u = Value.bool b
  | .int i, u => ∃ t, u = Value.int i t
  | .str x, u => ∃ t, u = Value.str x t
  | .byt b, u => ∃ t, u = Value.bytes b t
  | .flt b, u => ∃ t, u = Value.float b t
  | .ref a, u => u = Value.ref a
  | .ty n, u => u = Value.type n

noncomputable abbrev Vals : List V → List Value → Prop := Paired RelV
theorem Vals.length {xs : List V} {us : List Value} (r : Vals xs us) : xs.length = us.length := Paired.length r
theorem Vals.get : ∀ {xs : List V} {us : List Value} {i : Nat} {x : V}, Vals xs us → xs[i]? = some x → ∃ u, us[i]? = some u ∧ RelV x u
  | _, _, _, _, .nil, e => by simp at e
  | _, _, 0, _, .cons r _, e => by simp at e; subst e; exact ⟨_, rfl, r⟩
  | _, _, i + 1, x, .cons _ t, e => by
    obtain ⟨u, h1, h2⟩ := Vals.get (i := i) (x := x) t (by simpa using e)
    exact ⟨u, by simpa using h1, h2⟩
theorem Vals.set {x : V} {u : Value} (r : RelV x u) : ∀ {xs : List V} {us : List Value} (i : Nat), Vals xs us → Vals (xs.set i x) (us.set i u)
  | _, _, _, .nil => .nil
  | _, _, 0, .cons _ t => .cons r t
  | _, _, i + 1, .cons q t => .cons q (Vals.set r i t)
theorem Vals.append : ∀ {xs ys : List V} {us ws : List Value}, Vals xs us → Vals ys ws → Vals (xs ++ ys) (us ++ ws)
  | _, _, _, _, .nil, s => s
  | _, _, _, _, .cons r t, s => .cons r (Vals.append t s)
theorem Vals.take : ∀ {xs : List V} {us : List Value} (n : Nat), Vals xs us → Vals (xs.take n) (us.take n)
  | _, _, 0, _ => .nil
  | _, _, _ + 1, .nil => .nil
  | _, _, n + 1, .cons r t => .cons r (Vals.take n t)
theorem Vals.drop : ∀ {xs : List V} {us : List Value} (n : Nat), Vals xs us → Vals (xs.drop n) (us.drop n)
  | _, _, 0, r => r
  | _, _, _ + 1, .nil => .nil
  | _, _, n + 1, .cons _ t => Vals.drop n t
noncomputable def RelO : Option V → Option Value → Prop
  | some v, some u => RelV v u
  | none, none => True
  | _, _ => False
noncomputable def KV {κ : Type} : List (κ × V) → List (κ × Value) → Prop := Paired fun (p : κ × V) (q : κ × Value) => p.1 = q.1 ∧ RelV p.2 q.2

noncomputable def kV : Key → V
  | .inl i => .int i
  | .inr x => .str x

inductive HO where
  /-- a list -/
  | lst (xs : List V)
  /-- a tuple (never changes) -/
  | tup (xs : List V)
  /-- a dict whose keys are ints and texts; one whose keys are tuples of ints and texts (the empty one is both) -/
  | dK (kvs : List (Key × V)) | dT (kvs : List (List Key × V))
  /-- a set of ints: its members, its size -/
  | set (S : Int → Bool) (n : Nat)
  /-- an instance of the class at C, its dict at dx, its attributes -/
  | ins (C dx : Addr) (fs : List (Str × V))
  /-- the dict of the instance at x -/
  | own (x : Addr)
  /-- the dict of an exception -/
  | xd (fs : List (Str × V))
  /-- a bound method, f of x -/
  | met (f x : Addr)
  /-- a range object lo, lo + 1, .. below hi -/
  | rng (lo hi : Int)
  /-- a thing that is known to the object (the script; a dict while a loop walks it): read, never written while it is so -/
  | frz (o : Obj) (u : HO)
  /-- a code object's table -/
  | tbl (ps : Array Value)
  /-- any other thing, by what is true of its one object (a def of one's own: SetO a S n := HO.ext fun h => ..) -/
  | ext (φ : Heap → Prop)

noncomputable abbrev Hp := Addr → Option HO
noncomputable def upd (H : Hp) (a : Addr) (o : HO) : Hp := fun b => if b = a then some o else H b
theorem upd_same {H : Hp} {a : Addr} {o : HO} : upd H a o a = some o := by unfold upd; rw [if_pos rfl]
theorem upd_ne {H : Hp} {a b : Addr} {o : HO} (h : b ≠ a) : upd H a o b = H b := by unfold upd; rw [if_neg h]
theorem ne_of {H : Hp} {a b : Addr} {o u : HO} (h : H a = some o) (h' : H b = some u) (d : o ≠ u) : a ≠ b := by
  intro e; subst e; rw [h] at h'; exact d (Option.some.inj h')
theorem ne_of_none {H : Hp} {a b : Addr} {o : HO} (h : H a = some o) (h' : H b = none) : a ≠ b := by
  intro e; subst e; rw [h] at h'; cases h'

section
variable (P : Program) (w : World)
noncomputable def ObjOk (H : Hp) (h : Heap) (a : Addr) : HO → Prop
  | .lst xs => xs.length ≤ sizeLine ∧ ∃ (its : List Value) (n : Nat), Vals xs its ∧ h.get? a = some { cls := .type "list", data := .seq its.toArray n }
  | .tup xs => xs.length ≤ sizeLine ∧ ∃ its : List Value, Vals xs its ∧ IsTup h a its.toArray
  | .dK kvs => kvs.length ≤ sizeLine ∧ (a == sysModules) = false ∧ ∃ vs, KV kvs vs ∧ h.DictOf (mixKind P w) a vs
  | .dT kvs => kvs.length ≤ sizeLine ∧ (a == sysModules) = false ∧ ∃ xs : List (List Key × Addr × Value),
      Paired (fun (p : List Key × V) (q : List Key × Addr × Value) => p.1 = q.1 ∧ H q.2.1 = some (.tup (p.1.map kV)) ∧ RelV p.2 q.2.2) kvs xs ∧
      ∃ o es ep, h.get? a = some o ∧ o.ExactDict ∧ o.data = .dict es ep ∧ es.toList = xs.map (entryOfKey (tupleKind (mixKind P w))) ∧ (xs.map (·.1)).Nodup
  | .set S n => h.SetOf (intKind P w) a S n
  | .ins C dx fs => H dx = some (.own a) ∧ fs.length ≤ 1000 ∧ dx ≠ a ∧ h.get? a = some (PySem.W.instObj C dx) ∧
      ∃ mA, h.Ns1 dx mA ∧ (∀ f, RelO (fs.lookup f) (mA f)) ∧ PySem.Within mA (fs.map (·.1))
  | .own _ => ∃ o, h.get? a = some o
  | .xd fs => ∃ mA, h.Ns1 a mA ∧ ∀ f, RelO (fs.lookup f) (mA f)
  | .rng lo hi => ∃ t u v, h.get? a = some { cls := .type "range", data := .fields #[.int lo t, .int hi u, .int 1 v] }
  | .frz o u => h.get? a = some o ∧ ObjOk H h a u
  | .tbl ps => h.get? a = some { cls := .none, data := .fields ps }
  | .met f x => h.get? a = some (PySem.W.methodObj (.ref f) (.ref x))
  | .ext φ => φ h ∧ (∃ o, h.get? a = some o) ∧ ∀ h1 h2 : Heap, φ h1 → (∀ o, h1.get? a = some o → h2.get? a = some o) → φ h2
noncomputable def HOk (H : Hp) (h : Heap) : Prop := ∀ a o, H a = some o → ObjOk P w H h a o
end
section
variable {P : Program} {w : World} {H H' : Hp} {h h' : Heap} {a : Addr} {o : HO}
theorem ObjOk.lt (x : ObjOk P w H h a o) : a < h.objs.size := by
  cases o with
  | lst xs => obtain ⟨_, _, _, _, e⟩ := x; exact Heap.lt_size e
  | tup xs => obtain ⟨_, _, _, p⟩ := x; exact p.lt
  | dK kvs => obtain ⟨_, _, _, _, o, _, _, e, _⟩ := x; exact Heap.lt_size e
  | dT kvs => obtain ⟨_, _, _, _, o, _, _, e, _⟩ := x; exact Heap.lt_size e
  | set S n => obtain ⟨o, _, _, _, e, _⟩ := x; exact Heap.lt_size e
  | ins C dx fs => obtain ⟨_, _, _, e, _⟩ := x; exact Heap.lt_size e
  | own y => obtain ⟨_, e⟩ := x; exact Heap.lt_size e
  | xd fs => obtain ⟨_, ⟨_, _, _, e, _⟩, _⟩ := x; exact Heap.lt_size e
  | rng lo hi => obtain ⟨_, _, _, e⟩ := x; exact Heap.lt_size e
  | frz ob u => obtain ⟨e, _⟩ := x; exact Heap.lt_size e
  | tbl ps => exact Heap.lt_size (show h.get? a = some _ from x)
  | met f y => exact Heap.lt_size (show h.get? a = some _ from x)
  | ext φ => obtain ⟨_, ⟨_, e⟩, _⟩ := x; exact Heap.lt_size e
theorem Paired.mapP {α β : Type} {F G : α → β → Prop} : ∀ {l₁ : List α} {l₂ : List β}, Paired F l₁ l₂ → (∀ a b, F a b → G a b) → Paired G l₁ l₂
  | _, _, .nil, _ => .nil
  | _, _, .cons r t, f => .cons (f _ _ r) (Paired.mapP t f)
theorem ObjOk.stay (x : ObjOk P w H h a o) (k : ∀ b u, (b = a ∨ H b = some (.own a)) → h.get? b = some u → h'.get? b = some u)
    (ho : ∀ b, H b = some (.own a) → H' b = some (.own a)) (ht : ∀ b xs, H b = some (.tup xs) → H' b = some (.tup xs)) : ObjOk P w H' h' a o := by
  induction o with
  | lst xs => obtain ⟨z, its, n, r, e⟩ := x; exact ⟨z, its, n, r, k _ _ (.inl rfl) e⟩
  | tup xs => obtain ⟨z, its, r, ob, e, c⟩ := x; exact ⟨z, its, r, ob, k _ _ (.inl rfl) e, c⟩
  | dK kvs => obtain ⟨z, y, vs, r, ob, es, ep, e, c⟩ := x; exact ⟨z, y, vs, r, ob, es, ep, k _ _ (.inl rfl) e, c⟩
  | dT kvs =>
    obtain ⟨z, y, xs, r, ob, es, ep, e, c⟩ := x
    exact ⟨z, y, xs, Paired.mapP r fun p q z => ⟨z.1, ht _ _ z.2.1, z.2.2⟩, ob, es, ep, k _ _ (.inl rfl) e, c⟩
  | set S n => obtain ⟨ob, es, ep, t, e, c⟩ := x; exact ⟨ob, es, ep, t, k _ _ (.inl rfl) e, c⟩
  | ins C dx fs =>
    obtain ⟨d, z, ne, e, mA, ⟨od, es, ep, e2, c⟩, r⟩ := x
    exact ⟨ho _ d, z, ne, k _ _ (.inl rfl) e, mA, ⟨od, es, ep, k _ _ (.inr d) e2, c⟩, r⟩
  | own y => obtain ⟨ob, e⟩ := x; exact ⟨ob, k _ _ (.inl rfl) e⟩
  | xd fs => obtain ⟨mA, ⟨od, es, ep, e, c⟩, r⟩ := x; exact ⟨mA, ⟨od, es, ep, k _ _ (.inl rfl) e, c⟩, r⟩
  | rng lo hi => obtain ⟨t, u, v, e⟩ := x; exact ⟨t, u, v, k _ _ (.inl rfl) e⟩
  | frz ob u ih => obtain ⟨e, q⟩ := x; exact ⟨k _ _ (.inl rfl) e, ih q⟩
  | tbl ps =>
    have e : h.get? a = some { cls := .none, data := .fields ps } := x
    show h'.get? a = some { cls := .none, data := .fields ps }
    exact k a _ (.inl rfl) e
  | met f y =>
    have e : h.get? a = some (PySem.W.methodObj (.ref f) (.ref y)) := x
    show h'.get? a = some (PySem.W.methodObj (.ref f) (.ref y))
    exact k a _ (.inl rfl) e
  | ext φ => obtain ⟨p, ⟨o, e⟩, st⟩ := x; exact ⟨st _ _ p fun o q => k _ _ (.inl rfl) q, ⟨o, k _ _ (.inl rfl) e⟩, st⟩
theorem HOk.lt (x : HOk P w H h) (e : H a = some o) : a < h.objs.size := (x a o e).lt
theorem HOk.fresh (x : HOk P w H h) (e : h.objs.size ≤ a) : H a = none := by
  cases q : H a with
  | none => rfl
  | some u => exact absurd (Nat.lt_of_lt_of_le (x.lt q) e) (Nat.lt_irrefl _)
theorem HOk.kept (x : HOk P w H h) (k : ∀ b u, h.get? b = some u → h'.get? b = some u) : HOk P w H h' := fun a o e =>
  (x a o e).stay (fun b u _ q => k b u q) (fun _ q => q) fun _ _ q => q
theorem HOk.laid (x : HOk P w H h) (k : ∀ b u, h.get? b = some u → h'.get? b = some u) (hp : h.objs.size ≤ a) (new : ObjOk P w (upd H a o) h' a o) : HOk P w (upd H a o) h' := fun b u e => by
  have hn := x.fresh hp
  by_cases hb : b = a
  · subst hb; rw [upd_same] at e; cases e; exact new
  · rw [upd_ne hb] at e
    exact (x b u e).stay (fun c v _ q => k c v q) (fun c q => by rw [upd_ne (ne_of_none q hn)]; exact q) fun c xs q => by rw [upd_ne (ne_of_none q hn)]; exact q
end
noncomputable def Rd (H : Hp) (a : Addr) (u : HO) : Prop := H a = some u ∨ ∃ o, H a = some (.frz o u)
theorem Rd.ok {P : Program} {w : World} {H : Hp} {h : Heap} {a : Addr} {u : HO} (r : Rd H a u) (x : HOk P w H h) : ObjOk P w H h a u := by
  rcases r with r | ⟨o, r⟩
  · exact x a u r
  · obtain ⟨_, q⟩ := x a _ r
    exact q
noncomputable def Mut : Option HO → Prop
  | some (.lst _) => True
  | some (.dK _) => True
  | some (.dT _) => True
  | some (.set _ _) => True
  | some (.ins _ _ _) => True
  | some (.ext _) => True
  | _ => False
section
variable {P : Program} {w : World} {H : Hp} {h h' : Heap} {x e : Addr} {o' : HO}
theorem HOk.write (ok : HOk P w H h) (mu : Mut (H x)) (he : e = x ∨ H e = some (.own x)) (k : ∀ b u, b ≠ e → h.get? b = some u → h'.get? b = some u) (heo : ∃ u, h'.get? e = some u)
    (new : ObjOk P w (upd H x o') h' x o') : HOk P w (upd H x o') h' := fun b u q => by
  have nown : ∀ c y, H c = some (.own y) → c ≠ x := fun c y r z => by subst z; rw [r] at mu; exact mu
  have ntup : ∀ c xs, H c = some (.tup xs) → c ≠ x := fun c xs r z => by subst z; rw [r] at mu; exact mu
  by_cases hb : b = x
  · subst hb; rw [upd_same] at q; cases q; exact new
  · rw [upd_ne hb] at q
    by_cases hbe : b = e
    · have q' : H b = some (.own x) := by
        rcases he with z | z
        · exact absurd (hbe.trans z) hb
        · rw [hbe]; exact z
      rw [q] at q'; cases q'
      obtain ⟨v, hv⟩ := heo
      exact ⟨v, by rw [hbe]; exact hv⟩
    · refine (ok b u q).stay (fun c v hc r => k c v ?_ r) (fun c r => by rw [upd_ne (nown c b r)]; exact r) fun c xs r => by rw [upd_ne (ntup c xs r)]; exact r
      rcases hc with rfl | hc
      · exact hbe
      · rintro rfl
        rcases he with z | z
        · exact nown c b hc z
        · rw [hc] at z; cases z; exact hb rfl
end
structure Un (fs ex : List Addr) (H H' : Hp) (h h' : Heap) : Prop where
  keep : ∀ b o, h.get? b = some o → H b = none → b ∉ fs → b ∉ ex → h'.get? b = some o
  slot : ∀ b o, h.get? b = some o → H b = none → b ∈ fs → b ∉ ex → ∃ sl, h'.get? b = some { o with slots := sl }
  free : ∀ b o, h.get? b = some o → H b = none → b ∉ ex → H' b = none
  there : ∀ b o, h.get? b = some o → b ∉ ex → ∃ o', h'.get? b = some o'
  tups : ∀ b xs, H b = some (.tup xs) → H' b = some (.tup xs)
  frzs : ∀ b o u, H b = some (.frz o u) → H' b = some (.frz o u)
  tbls : ∀ b ps, H b = some (.tbl ps) → ∃ more, H' b = some (.tbl (ps ++ more))
section
variable {fs fs' ex ex' : List Addr} {H H1 H2 : Hp} {h h1 h2 h' : Heap} {a x e : Addr} {o : HO}
theorem Un.any (u : Un fs ex H H1 h h1) {b : Addr} {ob : Obj} (q : h.get? b = some ob) (n : H b = none) (hx : b ∉ ex) : ∃ sl, h1.get? b = some { ob with slots := sl } := by
  by_cases hb : b ∈ fs
  · exact u.slot b ob q n hb hx
  · exact ⟨ob.slots, u.keep b ob q n hb hx⟩
theorem Un.kept (k : ∀ b u, h.get? b = some u → h'.get? b = some u) : Un fs ex H H h h' :=
  ⟨fun b ob q _ _ _ => k b ob q, fun b ob q _ _ _ => ⟨ob.slots, k b ob q⟩, fun _ _ _ n _ => n, fun b ob q _ => ⟨ob, k b ob q⟩, fun _ _ q => q, fun _ _ _ q => q, fun _ ps q => ⟨#[], by rw [q]; simp⟩⟩
theorem Un.refl : Un fs ex H H h h := Un.kept fun _ _ q => q
theorem Un.laid (k : ∀ b u, h.get? b = some u → h'.get? b = some u) (hp : h.objs.size ≤ a) (hn : H a = none) : Un fs ex H (upd H a o) h h' where
  keep := fun b u q _ _ _ => k b u q
  slot := fun b u q _ _ _ => ⟨u.slots, k b u q⟩
  free := fun b u q n _ => by rw [upd_ne (Nat.ne_of_lt (Nat.lt_of_lt_of_le (Heap.lt_size q) hp))]; exact n
  there := fun b u q _ => ⟨u, k b u q⟩
  tups := fun b xs q => by rw [upd_ne (ne_of_none q hn)]; exact q
  frzs := fun b u xs q => by rw [upd_ne (ne_of_none q hn)]; exact q
  tbls := fun b ps q => ⟨#[], by rw [upd_ne (ne_of_none q hn), q]; simp⟩
theorem Un.write (mu : Mut (H x)) (he : e = x ∨ H e = some (.own x)) (k : ∀ b u, b ≠ e → h.get? b = some u → h'.get? b = some u) (heo : ∃ u, h'.get? e = some u) : Un fs ex H (upd H x o) h h' := by
  have hx : ∀ b, H b = none → b ≠ x := fun b n z => by subst z; rw [n] at mu; exact mu
  have hb : ∀ b, H b = none → b ≠ e := fun b n z => by
    subst z
    rcases he with r | r
    · exact hx b n r
    · rw [n] at r; cases r
  have hm : ∀ b u, H b = some u → ¬ Mut (some u) → b ≠ x := fun b u q nm z => by subst z; rw [q] at mu; exact nm mu
  refine ⟨fun b u q n _ _ => k b u (hb b n) q, fun b u q n _ _ => ⟨u.slots, k b u (hb b n) q⟩, fun b u q n _ => by rw [upd_ne (hx b n)]; exact n, fun b u q _ => ?_,
    fun b xs q => by rw [upd_ne (hm b _ q fun z => z)]; exact q, fun b u xs q => by rw [upd_ne (hm b _ q fun z => z)]; exact q, fun b ps q => ⟨#[], by rw [upd_ne (hm b _ q fun z => z), q]; simp⟩⟩
  by_cases hbe : b = e
  · subst hbe; exact heo
  · exact ⟨u, k b u hbe q⟩
end
noncomputable def trk (h : Heap) (H : Hp) : List Addr := (List.range h.objs.size).filter fun a => (H a).isSome
noncomputable def hidT (h : Heap) (H : Hp) : Heap := PySem.W.hideAll h (trk h H)
theorem hidT_size (h : Heap) (H : Hp) : (hidT h H).objs.size = h.objs.size := PySem.W.hideAll_size _ _
theorem hidT_get {h : Heap} {H : Hp} {b : Addr} {o : Obj} (e : h.get? b = some o) (n : H b = none) : (hidT h H).get? b = some o :=
  PySem.W.hideAll_get _ e fun hm => by
    have q : (H b).isSome = true := (List.mem_filter.mp hm).2
    rw [n] at q; simp at q
theorem of_hidT {h : Heap} {H : Hp} {b : Addr} {o : Obj} (e : (hidT h H).get? b = some o) : h.get? b = some o ∧ H b = none := by
  have e' : h.get? b = some o := PySem.W.of_hideAll (trk h H) e
  refine ⟨e', ?_⟩
  cases q : H b with
  | none => rfl
  | some x =>
    have hm : b ∈ trk h H := List.mem_filter.mpr ⟨List.mem_range.mpr (Heap.lt_size e'), by simp [q]⟩
    have z : (hidT h H).get? b = none := PySem.W.hideAll_none (trk h H) hm
    rw [z] at e; cases e

noncomputable def allNews (g h : Heap) (L : Addr) : List (Addr × Obj) := (List.range h.objs.size).filterMap fun a => if a = L ∨ (g.get? a).isSome = true then none else (h.get? a).map fun o => (a, o)
noncomputable def rest (g h : Heap) (L d : Addr) : List (Addr × Obj) := (allNews g h L).filter fun p => decide (p.1 ≠ d)
end L2
namespace L2
open PySem PySem.Spec PyProof.Rows
structure Mod (K : PySem.W.Frag) (mg : Str → Option Value) (base : Heap) : Prop where
  kin : K.In base
  glob : base.Ns mainGlobals mg
  blt : ∃ mb, base.Ns builtinsNs mb ∧ ∀ x : Str, x ≠ "__name__" → mb x = bootBuiltins x
  nolimit : base.NoLimit

structure Cx where
  prog : Program
  w : World
  K : PySem.W.Frag
  mg : Str → Option Value
  base : Heap
  A : Around
  N : List Str
  s₀ : Shared
  H₀ : Hp
  env : Env
  outer : List Env
  stack : List Env
  ex : List Addr
  fn : Str → Bool
  calm : Bool
  pn : List (Addr × Obj)
  xe : Value → Shared → Prop
noncomputable def frs (l : List Env) : List Addr := l.filterMap (·.frame)
noncomputable abbrev Cx.fs (X : Cx) : List Addr := frs X.outer

noncomputable def Vis (sc : Scope) (x : Str) : Prop := sc.names.lookup x = some .local ∨ sc.names.lookup x = some .cell ∨ sc.names.lookup x = some .free
noncomputable def Loc (sc : Scope) (x : Str) : Prop := sc.names.lookup x = some .local ∨ sc.names.lookup x = some .cell
noncomputable def Look (env : Env) (h : Heap) (m : Str → Option Value) (x : Str) (u : Value) : Prop :=
  (env.kindOf x = some .local ∧ m x = some u) ∨ ((env.kindOf x = some .cell ∨ env.kindOf x = some .free) ∧ ∃ c, env.cells.lookup x = some c ∧ h.IsCell c (some u))

structure Cx.Ok (X : Cx) : Prop where
  mod : Mod X.K X.mg X.base
  kind : X.env.scope.kind = .function
  glob : X.env.globals = mainGlobals
  blt : X.env.builtins = builtinsNs
  above : X.s₀.heap.objs.size ≤ X.env.locals
  inj : ∀ x y c, X.env.cells.lookup x = some c → X.env.cells.lookup y = some c → x = y
  has : ∀ x, (X.env.kindOf x = some .cell ∨ X.env.kindOf x = some .free) → ∃ c, X.env.cells.lookup x = some c
  cab : ∀ x c, X.fn x = true → X.env.cells.lookup x = some c → X.s₀.heap.objs.size ≤ c
  hd : X.calm = true → X.A.handled = none
  frames : X.A.frames = some X.stack
  stk : X.stack = X.outer ∨ (X.stack = X.env :: X.outer ∧ X.env.frame = some X.env.locals)
  exf : ∀ b ∈ X.ex, b ≠ X.env.locals ∧ ∀ x c, X.env.cells.lookup x = some c → c ≠ b
  bs : ∀ b o, X.base.get? b = some o → X.s₀.heap.get? b = some o ∧ X.H₀ b = none
  bsz : X.base.objs.size ≤ X.s₀.heap.objs.size
  noex : ∀ b o, X.base.get? b = some o → b ∉ X.ex
  exfs : ∀ b ∈ X.ex, b ∉ X.fs
  funs : X.s₀.heap.FunFrames X.base X.outer
  frf : ∀ b ∈ X.fs, X.H₀ b = none

structure Inv (X : Cx) (pins : List (Addr × Obj)) (σ : List (Option V)) (H : Hp) (s : Shared) : Prop where
  ok : X.Ok
  os : s.os = X.s₀.os
  bare : AllBare s.gens
  base : Un X.fs X.ex X.H₀ H X.s₀.heap s.heap
  loc : ∃ m, s.heap.Ns X.env.locals m ∧ ∀ (i : Nat) (x : Str) (v : V), X.N[i]? = some x → σ[i]? = some (some v) → Vis X.env.scope x → ∃ u, RelV v u ∧ Look X.env s.heap m x u
  cell : ∀ x c, X.env.cells.lookup x = some c → ∃ v, s.heap.IsCell c v
  free : H X.env.locals = none
  freeC : ∀ x c, X.env.cells.lookup x = some c → H c = none
  pin : ∀ p ∈ X.pn ++ pins, s.heap.get? p.1 = some p.2 ∧ H p.1 = none ∧ p.1 ≠ X.env.locals ∧ p.1 ∉ X.fs ∧ ∀ v, p.2.data ≠ .cell v
  hok : HOk X.prog X.w H s.heap
  len : σ.length = X.N.length

section
variable {X : Cx} {pins : List (Addr × Obj)} {σ : List (Option V)} {H H' : Hp} {s : Shared} {h' : Heap}
theorem Cx.Ok.nofr (ok : X.Ok) {b : Addr} {o : Obj} (e : X.base.get? b = some o) : b ∉ X.fs := fun hb => by
  have := (ok.funs.mem hb).1
  rw [e] at this; cases this
theorem Inv.bs (I : Inv X pins σ H s) : ∀ b o, X.base.get? b = some o → s.heap.get? b = some o ∧ H b = none := fun b o e =>
  ⟨I.base.keep b o (I.ok.bs b o e).1 (I.ok.bs b o e).2 (I.ok.nofr e) (I.ok.noex b o e), I.base.free b o (I.ok.bs b o e).1 (I.ok.bs b o e).2 (I.ok.noex b o e)⟩
theorem Inv.bk (I : Inv X pins σ H s) : ∀ b o, X.base.get? b = some o → s.heap.get? b = some o := fun b o e => (I.bs b o e).1
theorem Inv.mod (I : Inv X pins σ H s) : Mod X.K X.mg X.base := I.ok.mod
theorem Inv.kIn (I : Inv X pins σ H s) : X.K.In s.heap := I.ok.mod.kin.keeps I.bk
theorem Inv.lt (I : Inv X pins σ H s) : X.env.locals < s.heap.objs.size := let ⟨_, hn, _⟩ := I.loc; hn.lt
theorem Inv.sz (I : Inv X pins σ H s) : X.s₀.heap.objs.size ≤ s.heap.objs.size := Nat.le_trans I.ok.above (Nat.le_of_lt I.lt)
theorem Inv.nofs (I : Inv X pins σ H s) {a : Addr} (h : s.heap.objs.size ≤ a) : a ∉ X.fs := fun hb => by
  obtain ⟨_, o, ho, _⟩ := I.ok.funs.mem hb
  exact absurd (Nat.lt_of_lt_of_le (Heap.lt_size ho) (Nat.le_trans I.sz h)) (Nat.lt_irrefl _)
theorem Inv.cne (I : Inv X pins σ H s) : ∀ x c, X.env.cells.lookup x = some c → c ≠ X.env.locals := fun x c e z => by
  obtain ⟨v, o, ho, hd⟩ := I.cell x c e
  obtain ⟨m, ⟨o', es, ep, ho', hd', _⟩, _⟩ := I.loc
  rw [z, ho'] at ho; cases ho; rw [hd'] at hd; cases hd
theorem Inv.funs (I : Inv X pins σ H s) : s.heap.FunFrames X.base X.outer := by
  have all : ∀ (l : List Env), (∀ b ∈ frs l, b ∈ X.fs) → X.s₀.heap.FunFrames X.base l → s.heap.FunFrames X.base l := by
    intro l
    induction l with
    | nil => intro _ _; trivial
    | cons env r ih =>
      intro hs hl
      obtain ⟨hk, ⟨L, o, hf, hn, ho, hd⟩, hr⟩ := hl
      have hL : L ∈ X.fs := hs L (by unfold frs; rw [List.filterMap_cons, hf]; exact List.mem_cons_self)
      obtain ⟨sl, e⟩ := I.base.slot L o ho (I.ok.frf L hL) hL fun z => I.ok.exfs L z hL
      exact ⟨hk, ⟨L, _, hf, hn, e, hd⟩, ih (fun b hb => hs b (by unfold frs; rw [List.filterMap_cons, hf]; exact List.mem_cons_of_mem _ hb)) hr⟩
  exact all X.outer (fun _ hb => hb) I.ok.funs

theorem Inv.stack (I : Inv X pins σ H s) : s.heap.FunFrames X.base X.stack := by
  rcases I.ok.stk with e | ⟨e, hf⟩
  · rw [e]; exact I.funs
  · rw [e]
    obtain ⟨m, hn, _⟩ := I.loc
    refine .cons (by rw [I.ok.kind]; decide) hf hn ?_ I.funs
    exact Heap.get?_none_of_le (Nat.le_trans I.ok.bsz I.ok.above)
theorem Inv.stkSub (I : Inv X pins σ H s) : ∀ b ∈ frs X.stack, b ∈ X.env.locals :: X.fs := fun b hb => by
  rcases I.ok.stk with e | ⟨e, hf⟩
  · rw [e] at hb; exact List.mem_cons_of_mem _ hb
  · rw [e] at hb
    unfold frs at hb
    rw [List.filterMap_cons, hf] at hb
    exact hb
theorem Inv.stkFree (I : Inv X pins σ H s) : ∀ b ∈ frs X.stack, H b = none := fun b hb => by
  rcases List.mem_cons.mp (I.stkSub b hb) with e | hb
  · rw [e]; exact I.free
  · obtain ⟨_, o, ho, _⟩ := I.ok.funs.mem hb
    exact I.base.free b o ho (I.ok.frf b hb) fun z => I.ok.exfs b z hb

theorem Inv.step {g' : Array GenState} {t' : Nat} {d' : Drawn} {ch : List Addr} (I : Inv X pins σ H s)
    (hch : ∀ b ∈ ch, (b ∈ X.ex ∨ X.s₀.heap.objs.size ≤ b) ∧ b ≠ X.env.locals ∧ (∀ x c, X.env.cells.lookup x = some c → c ≠ b) ∧ ∀ p ∈ X.pn ++ pins, p.1 ≠ b)
    (keep : ∀ b o, b ≠ X.env.locals → b ∉ X.fs → b ∉ ch → s.heap.get? b = some o → H b = none → h'.get? b = some o)
    (slot : ∀ b o, b ≠ X.env.locals → b ∈ X.fs → b ∉ ch → s.heap.get? b = some o → H b = none → ∃ sl, h'.get? b = some { o with slots := sl }) (free : ∀ b o, b ∉ ch → s.heap.get? b = some o → H b = none → H' b = none)
    (there : ∀ b o, b ∉ ch → s.heap.get? b = some o → ∃ o', h'.get? b = some o')
    (tups : ∀ b xs, H b = some (.tup xs) → H' b = some (.tup xs)) (frzs : ∀ b o u, H b = some (.frz o u) → H' b = some (.frz o u)) (tbls : ∀ b ps, H b = some (.tbl ps) → ∃ more, H' b = some (.tbl (ps ++ more)))
    (ns : ∀ m, s.heap.Ns X.env.locals m → h'.Ns X.env.locals m) (hok : HOk X.prog X.w H' h') (hg : AllBare g') :
    Inv X pins σ H' { s with heap := h', gens := g', drawn := d', toks := t' } := by
  have neL : ∀ b o, X.s₀.heap.get? b = some o → b ≠ X.env.locals := fun b o e => Nat.ne_of_lt (Nat.lt_of_lt_of_le (Heap.lt_size e) I.ok.above)
  have neC : ∀ b o, X.s₀.heap.get? b = some o → b ∉ X.ex → b ∉ ch := fun b o e hx hb => by
    rcases (hch b hb).1 with z | z
    · exact hx z
    · exact absurd (Nat.lt_of_lt_of_le (Heap.lt_size e) z) (Nat.lt_irrefl _)
  have cellK : ∀ x c, X.env.cells.lookup x = some c → ∀ v, s.heap.IsCell c v → h'.IsCell c v := fun x c e v ⟨o, ho, hd⟩ => by
    have nch : c ∉ ch := fun z => (hch c z).2.2.1 x c e rfl
    by_cases hc : c ∈ X.fs
    · obtain ⟨sl, q⟩ := slot c o (I.cne x c e) hc nch ho (I.freeC x c e)
      exact ⟨_, q, hd⟩
    · exact ⟨o, keep c o (I.cne x c e) hc nch ho (I.freeC x c e), hd⟩
  refine ⟨I.ok, I.os, hg, ⟨fun b o e n hb hx => ?_, fun b o e n hb hx => ?_, fun b o e n hx => ?_, fun b o e hx => ?_, fun b xs e => tups b xs (I.base.tups b xs e), fun b o xs e => frzs b o xs (I.base.frzs b o xs e), fun b ps e => ?_⟩, ?_, fun x c e => ?_, ?_, fun x c e => ?_, fun p hp => ?_, hok, I.len⟩
  · exact keep b o (neL b o e) hb (neC b o e hx) (I.base.keep b o e n hb hx) (I.base.free b o e n hx)
  · obtain ⟨sl, e1⟩ := I.base.slot b o e n hb hx
    obtain ⟨sl', e2⟩ := slot b _ (neL b o e) hb (neC b o e hx) e1 (I.base.free b o e n hx)
    exact ⟨sl', e2⟩
  · obtain ⟨o', e1⟩ := I.base.there b o e hx
    exact free b o' (neC b o e hx) e1 (I.base.free b o e n hx)
  · obtain ⟨o', e1⟩ := I.base.there b o e hx
    exact there b o' (neC b o e hx) e1
  · obtain ⟨m1, e1⟩ := I.base.tbls b ps e
    obtain ⟨m2, e2⟩ := tbls b _ e1
    exact ⟨m1 ++ m2, by rw [e2, Array.append_assoc]⟩
  · obtain ⟨m, hn, hl⟩ := I.loc
    refine ⟨m, ns m hn, fun i x v e1 e2 e3 => ?_⟩
    obtain ⟨u, r, l⟩ := hl i x v e1 e2 e3
    refine ⟨u, r, ?_⟩
    rcases l with l | ⟨k, c, e, z⟩
    · exact .inl l
    · exact .inr ⟨k, c, e, cellK x c e _ z⟩
  · obtain ⟨v, z⟩ := I.cell x c e
    exact ⟨v, cellK x c e v z⟩
  · obtain ⟨m, ⟨o, _, _, ho, _⟩, _⟩ := I.loc
    exact free _ o (fun z => (hch _ z).2.1 rfl) ho I.free
  · obtain ⟨v, o, ho, hd⟩ := I.cell x c e
    exact free c o (fun z => (hch c z).2.2.1 x c e rfl) ho (I.freeC x c e)
  · obtain ⟨e, n, ne, nf, d⟩ := I.pin p hp
    have nch : p.1 ∉ ch := fun z => (hch p.1 z).2.2.2 p hp rfl
    exact ⟨keep p.1 p.2 ne nf nch e n, free p.1 p.2 nch e n, ne, nf, d⟩
theorem Inv.un {t' : Nat} (I : Inv X pins σ H s) (u : Un X.fs [] H H' s.heap h') (hok : HOk X.prog X.w H' h') : Inv X pins σ H' { s with heap := h', toks := t' } := by
  obtain ⟨m, ⟨o, es, ep, ho, r⟩, _⟩ := id I.loc
  obtain ⟨sl, hL⟩ := u.any ho I.free (by simp)
  exact I.step (g' := s.gens) (d' := s.drawn) (ch := []) (fun _ z => nomatch z) (fun b o _ hb _ e n => u.keep b o e n hb (by simp)) (fun b o _ hb _ e n => u.slot b o e n hb (by simp)) (fun b o _ e n => u.free b o e n (by simp)) (fun b o _ e => u.there b o e (by simp)) u.tups u.frzs u.tbls (fun m' hm => by
    obtain ⟨o', es', ep', ho', r'⟩ := hm
    rw [ho] at ho'; cases ho'
    exact ⟨_, es', ep', hL, r'⟩) hok I.bare
theorem Inv.call {g' : Array GenState} {t' : Nat} {d' : Drawn} {ch : List Addr} (I : Inv X pins σ H s) (u : Un (frs X.stack) ch H H' s.heap h') (hok : HOk X.prog X.w H' h') (hg : AllBare g')
    (hch : ∀ b ∈ ch, (b ∈ X.ex ∨ X.s₀.heap.objs.size ≤ b) ∧ b ≠ X.env.locals ∧ (∀ x c, X.env.cells.lookup x = some c → c ≠ b) ∧ ∀ p ∈ X.pn ++ pins, p.1 ≠ b) :
    Inv X pins σ H' { s with heap := h', gens := g', drawn := d', toks := t' } := by
  obtain ⟨m, ⟨o, es, ep, ho, r⟩, _⟩ := id I.loc
  obtain ⟨sl, hL⟩ := u.any ho I.free fun z => (hch _ z).2.1 rfl
  exact I.step (ch := ch) hch (fun b o hL hb hc e n => u.keep b o e n (fun z => (List.mem_cons.mp (I.stkSub b z)).elim hL hb) hc) (fun b o _ _ hc e n => u.any e n hc) (fun b o hc e n => u.free b o e n hc) (fun b o hc e => u.there b o e hc) u.tups u.frzs u.tbls (fun m' hm => by
    obtain ⟨o', es', ep', ho', r'⟩ := hm
    rw [ho] at ho'; cases ho'
    exact ⟨_, es', ep', hL, r'⟩) hok hg
theorem Inv.turned {t' : Nat} {it : Addr} (I : Inv X pins σ H s) (k : ∀ b o, b ≠ it → s.heap.get? b = some o → h'.get? b = some o) (hn : H it = none) (hL : it ≠ X.env.locals)
    (h1 : it ∈ X.ex ∨ X.s₀.heap.objs.size ≤ it) (h2 : ∀ x c, X.env.cells.lookup x = some c → c ≠ it) (h3 : ∀ p ∈ X.pn ++ pins, p.1 ≠ it) : Inv X pins σ H { s with heap := h', toks := t' } := by
  have nit : ∀ b u, H b = some u → b ≠ it := fun b u e z => by rw [z, hn] at e; cases e
  refine I.step (g' := s.gens) (d' := s.drawn) (ch := [it]) (fun b hb => ?_) (fun b o _ _ hc e _ => k b o (fun z => hc (by simp [z])) e) (fun b o _ _ hc e _ => ⟨o.slots, k b o (fun z => hc (by simp [z])) e⟩) (fun _ _ _ _ n => n)
    (fun b o hc e => ⟨o, k b o (fun z => hc (by simp [z])) e⟩) (fun _ _ e => e) (fun _ _ _ e => e) (fun b ps e => ⟨#[], by rw [e]; simp⟩) (fun m hm => ?_) (fun b u e => ?_) I.bare
  · have e : b = it := by simpa using hb
    subst e
    exact ⟨h1, hL, h2, h3⟩
  · obtain ⟨o, es, ep, ho, r⟩ := hm
    exact ⟨o, es, ep, k _ o (Ne.symm hL) ho, r⟩
  · refine (I.hok b u e).stay (fun c v hc q => k c v ?_ q) (fun _ q => q) fun _ _ q => q
    rcases hc with z | z
    · rw [z]; exact nit b u e
    · exact nit c _ z
theorem Inv.tok (I : Inv X pins σ H s) (t : Nat) : Inv X pins σ H { s with toks := t } := I.un (h' := s.heap) (t' := t) Un.refl I.hok
theorem Inv.kept {t' : Nat} (I : Inv X pins σ H s) (k : ∀ b u, s.heap.get? b = some u → h'.get? b = some u) : Inv X pins σ H { s with heap := h', toks := t' } := I.un (Un.kept k) (I.hok.kept k)
theorem Inv.laid {a : Addr} {o : HO} {t' : Nat} (I : Inv X pins σ H s) (k : ∀ b u, s.heap.get? b = some u → h'.get? b = some u) (hp : s.heap.objs.size ≤ a) (new : ObjOk X.prog X.w (upd H a o) h' a o) :
    Inv X pins σ (upd H a o) { s with heap := h', toks := t' } := I.un (Un.laid k hp (I.hok.fresh hp)) (I.hok.laid k hp new)
theorem Inv.write {x e : Addr} {o : HO} {t' : Nat} (I : Inv X pins σ H s) (mu : Mut (H x)) (he : e = x ∨ H e = some (.own x)) (k : ∀ b u, b ≠ e → s.heap.get? b = some u → h'.get? b = some u) (heo : ∃ u, h'.get? e = some u)
    (new : ObjOk X.prog X.w (upd H x o) h' x o) : Inv X pins σ (upd H x o) { s with heap := h', toks := t' } := I.un (Un.write mu he k heo) (I.hok.write mu he k heo new)
theorem Inv.pins_of {pins' : List (Addr × Obj)} (I : Inv X pins σ H s) (h : ∀ p ∈ pins', s.heap.get? p.1 = some p.2 ∧ H p.1 = none ∧ p.1 ≠ X.env.locals ∧ p.1 ∉ X.fs ∧ ∀ v, p.2.data ≠ .cell v) : Inv X pins' σ H s :=
  ⟨I.ok, I.os, I.bare, I.base, I.loc, I.cell, I.free, I.freeC, fun p hp => (List.mem_append.mp hp).elim (fun z => I.pin p (List.mem_append_left _ z)) (h p), I.hok, I.len⟩

theorem nodup_ix {N : List Str} (hN : N.Nodup) {i j : Nat} {x : Str} (a : N[i]? = some x) (b : N[j]? = some x) : i = j := by
  obtain ⟨h1, e1⟩ := List.getElem?_eq_some_iff.mp a
  obtain ⟨h2, e2⟩ := List.getElem?_eq_some_iff.mp b
  exact (List.getElem_inj hN).mp (e1.trans e2.symm)

theorem store_ok2 {M : Model} {A : Around} {E : Value → Shared → Prop} {i : Nat} {x : Str} {v : V} {u : Value} {Q : Unit → Shared → Prop} (I : Inv X pins σ H s) (hN : X.N.Nodup) (hi : X.N[i]? = some x) (hx : Loc X.env.scope x) (r : RelV v u)
    (h : ∀ s', Inv X pins (σ.set i (some v)) H s' → (∃ a, Heap.SameBut a s.heap s'.heap ∧ (a = X.env.locals ∨ X.env.cells.lookup x = some a)) → Q () s') (hf : X.fn x = true ∨ X.env.scope.names.lookup x = some .local := by first | exact .inl rfl | exact .inr rfl | assumption) : wpAny M A (storeName X.env x u) Q E s := by
  obtain ⟨m, hn, hl⟩ := id I.loc
  have hcls : (X.env.scope.kind == .class || (X.env.scope.kind == .module && X.env.locals != X.env.globals)) = false := by rw [I.ok.kind]; rfl
  have hiσ : i < σ.length := by rw [I.len]; exact (List.getElem?_eq_some_iff.mp hi).1
  have cne := I.cne
  have tracked : ∀ {a : Addr} {h' : Heap}, (∃ o, s.heap.get? a = some o ∧ H a = none) → Heap.SameBut a s.heap h' → HOk X.prog X.w H h' := fun {a h'} ha hs b ob e => by
    obtain ⟨_, _, hfree⟩ := ha
    refine (I.hok b ob e).stay (fun c w' hc q => (hs.2 c ?_).trans q) (fun _ q => q) fun _ _ q => q
    rintro rfl
    rcases hc with rfl | hc
    · rw [hfree] at e; cases e
    · rw [hfree] at hc; cases hc
  rcases hx with hk | hk
  · refine wpAny_storeName_local hk hn (fun h' hn' hs => ?_) hcls
    obtain ⟨oL, _, _, hoL, _⟩ := id hn
    refine h _ ⟨I.ok, I.os, I.bare, ⟨fun b o e n hb hx => ?_, fun b o e n hb hx => ?_, I.base.free, fun b o e hx => ?_, I.base.tups, I.base.frzs, I.base.tbls⟩, ⟨_, hn', fun j y v' e1 e2 e3 => ?_⟩, fun y c e => ?_, I.free, I.freeC, fun p hp => ?_, tracked ⟨oL, hoL, I.free⟩ hs, by simpa using I.len⟩ ⟨_, hs, .inl rfl⟩
    · exact (hs.2 b (Nat.ne_of_lt (Nat.lt_of_lt_of_le (Heap.lt_size e) I.ok.above))).trans (I.base.keep b o e n hb hx)
    · obtain ⟨sl, e1⟩ := I.base.slot b o e n hb hx
      exact ⟨sl, (hs.2 b (Nat.ne_of_lt (Nat.lt_of_lt_of_le (Heap.lt_size e) I.ok.above))).trans e1⟩
    · obtain ⟨o', e1⟩ := I.base.there b o e hx
      exact ⟨o', (hs.2 b (Nat.ne_of_lt (Nat.lt_of_lt_of_le (Heap.lt_size e) I.ok.above))).trans e1⟩
    · by_cases hj : j = i
      · subst hj
        rw [hi] at e1; cases e1
        rw [List.getElem?_set_self hiσ] at e2
        cases e2
        exact ⟨u, r, .inl ⟨hk, by simp⟩⟩
      · rw [List.getElem?_set_ne (Ne.symm hj)] at e2
        obtain ⟨u', r', q⟩ := hl j y v' e1 e2 e3
        refine ⟨u', r', ?_⟩
        rcases q with ⟨k, e⟩ | ⟨k, c, e, z⟩
        · refine .inl ⟨k, ?_⟩
          have : y ≠ x := fun e => hj (nodup_ix hN e1 (e ▸ hi))
          simp [this, e]
        · exact .inr ⟨k, c, e, z.sameBut hs (cne y c e)⟩
    · obtain ⟨w', z⟩ := I.cell y c e
      exact ⟨w', z.sameBut hs (cne y c e)⟩
    · obtain ⟨e, n, ne, nf, d⟩ := I.pin p hp
      exact ⟨(hs.2 p.1 ne).trans e, n, ne, nf, d⟩
  · have hfn : X.fn x = true := by
      rcases hf with z | z
      · exact z
      · rw [z] at hk; cases hk
    obtain ⟨c, hc⟩ := I.ok.has x (.inl hk)
    obtain ⟨w', z⟩ := I.cell x c hc
    refine wpAny_storeName_cell I.ok.kind hk hc z (fun h' hc' hs => ?_)
    obtain ⟨oc, hoc, hocd⟩ := id z
    refine h { s with heap := h' } ⟨I.ok, I.os, I.bare, ⟨fun b o e n hb hx => ?_, fun b o e n hb hx => ?_, I.base.free, fun b o e hx => ?_, I.base.tups, I.base.frzs, I.base.tbls⟩, ⟨m, hn.sameBut hs (Ne.symm (cne x c hc)), fun j y v' e1 e2 e3 => ?_⟩, fun y c' e => ?_, I.free, I.freeC, fun p hp => ?_, tracked ⟨oc, hoc, I.freeC x c hc⟩ hs, by simpa using I.len⟩ ⟨c, hs, .inr hc⟩
    · exact (hs.2 b (Nat.ne_of_lt (Nat.lt_of_lt_of_le (Heap.lt_size e) (I.ok.cab x c hfn hc)))).trans (I.base.keep b o e n hb hx)
    · obtain ⟨sl, e1⟩ := I.base.slot b o e n hb hx
      exact ⟨sl, (hs.2 b (Nat.ne_of_lt (Nat.lt_of_lt_of_le (Heap.lt_size e) (I.ok.cab x c hfn hc)))).trans e1⟩
    · obtain ⟨o', e1⟩ := I.base.there b o e hx
      exact ⟨o', (hs.2 b (Nat.ne_of_lt (Nat.lt_of_lt_of_le (Heap.lt_size e) (I.ok.cab x c hfn hc)))).trans e1⟩
    · by_cases hj : j = i
      · subst hj
        rw [hi] at e1; cases e1
        rw [List.getElem?_set_self hiσ] at e2
        cases e2
        exact ⟨u, r, .inr ⟨.inl hk, c, hc, hc'⟩⟩
      · rw [List.getElem?_set_ne (Ne.symm hj)] at e2
        obtain ⟨u', r', q⟩ := hl j y v' e1 e2 e3
        refine ⟨u', r', ?_⟩
        rcases q with q | ⟨k, c', e, z'⟩
        · exact .inl q
        · refine .inr ⟨k, c', e, z'.sameBut hs ?_⟩
          rintro rfl
          exact hj (nodup_ix hN e1 (I.ok.inj _ _ _ e hc ▸ hi))
    · by_cases hcc : c' = c
      · subst hcc; exact ⟨_, hc'⟩
      · obtain ⟨w2, z2⟩ := I.cell y c' e
        exact ⟨w2, z2.sameBut hs hcc⟩
    · obtain ⟨e, n, ne, nf, d⟩ := I.pin p hp
      refine ⟨(hs.2 p.1 ?_).trans e, n, ne, nf, d⟩
      intro q
      rw [q, hoc] at e
      have q' : oc = p.2 := Option.some.inj e
      exact d w' (by rw [← q']; exact hocd)
theorem store_ok {M : Model} {A : Around} {E : Value → Shared → Prop} {i : Nat} {x : Str} {v : V} {u : Value} {Q : Unit → Shared → Prop} (I : Inv X pins σ H s) (hN : X.N.Nodup) (hi : X.N[i]? = some x) (hx : Loc X.env.scope x) (r : RelV v u)
    (h : ∀ s', Inv X pins (σ.set i (some v)) H s' → Q () s') (hf : X.fn x = true ∨ X.env.scope.names.lookup x = some .local := by first | exact .inl rfl | exact .inr rfl | assumption) : wpAny M A (storeName X.env x u) Q E s :=
  store_ok2 I hN hi hx r (fun s' I' _ => h s' I') hf
theorem Inv.call' {s' : Shared} {ch : List Addr} (I : Inv X pins σ H s) (ho : s'.os = s.os) (u : Un (frs X.stack) ch H H' s.heap s'.heap) (hok : HOk X.prog X.w H' s'.heap) (hg : AllBare s'.gens)
    (hch : ∀ b ∈ ch, (b ∈ X.ex ∨ X.s₀.heap.objs.size ≤ b) ∧ b ≠ X.env.locals ∧ (∀ x c, X.env.cells.lookup x = some c → c ≠ b) ∧ ∀ p ∈ X.pn ++ pins, p.1 ≠ b) : Inv X pins σ H' s' := by
  obtain ⟨h', g', d', t', o'⟩ := s'
  have e : o' = s.os := ho
  subst e
  exact I.call (g' := g') (t' := t') (d' := d') u hok hg hch
end
noncomputable abbrev XK := Value → Option Addr → Hp → Prop
noncomputable abbrev St := List (Option V)
noncomputable abbrev VK := V → Hp → Prop
noncomputable abbrev TE := St → Hp → VK → Prop
noncomputable abbrev TT := St → Hp → (Bool → Hp → Prop) → Prop
noncomputable abbrev TA := St → Hp → (List V → Hp → Prop) → Prop
structure Ends where
  nx : St → Hp → Prop
  rt : VK
  bk : St → Hp → Prop := fun _ _ => False
  ct : St → Hp → Prop := fun _ _ => False
noncomputable abbrev TS := Ends → St → Hp → Prop

noncomputable def EP (X : Cx) (pins : List (Addr × Obj)) (σ : St) (Q : VK) (u : Value) (s' : Shared) : Prop := ∃ v H', Inv X pins σ H' s' ∧ RelV v u ∧ Q v H'
noncomputable def TP (X : Cx) (pins : List (Addr × Obj)) (σ : St) (Q : Bool → Hp → Prop) (b : Bool) (s' : Shared) : Prop := ∃ H', Inv X pins σ H' s' ∧ Q b H'
noncomputable def AP (X : Cx) (pins : List (Addr × Obj)) (σ : St) (Q : List V → Hp → Prop) (us : List Value) (s' : Shared) : Prop := ∃ vs H', Inv X pins σ H' s' ∧ Vals vs us ∧ Q vs H'
noncomputable def SP (X : Cx) (pins : List (Addr × Obj)) (D : Ends) (f : Flow) (s' : Shared) : Prop :=
  match f with
  | .next => ∃ σ' H', Inv X pins σ' H' s' ∧ D.nx σ' H'
  | .brk => ∃ σ' H', Inv X pins σ' H' s' ∧ D.bk σ' H'
  | .cont => ∃ σ' H', Inv X pins σ' H' s' ∧ D.ct σ' H'
  | .ret u => ∃ v σ' H', Inv X pins σ' H' s' ∧ RelV v u ∧ D.rt v H'

noncomputable def PE (X : Cx) (e : Expr) (t : TE) : Prop :=
  ∀ (pins : List (Addr × Obj)) (s : Shared) (σ : St) (H : Hp) (Q : VK), Inv X pins σ H s → t σ H Q → wpAny (model X.prog X.w) X.A (eval e X.env) (EP X pins σ Q) X.xe s
noncomputable def PT (X : Cx) (e : Expr) (t : TT) : Prop :=
  ∀ (pins : List (Addr × Obj)) (s : Shared) (σ : St) (H : Hp) (Q : Bool → Hp → Prop), Inv X pins σ H s → t σ H Q → wpAny (model X.prog X.w) X.A (isTrue e X.env (eval e X.env)) (TP X pins σ Q) X.xe s
noncomputable def PW (X : Cx) (e : Expr) (t : TT) : Prop :=
  ∀ (whole : Sem Value) (pins : List (Addr × Obj)) (s : Shared) (σ : St) (H : Hp) (Q : Bool → Hp → Prop), Inv X pins σ H s → t σ H Q → wpAny (model X.prog X.w) X.A (isTrue e X.env whole) (TP X pins σ Q) X.xe s
theorem PW.pt {X : Cx} {e : Expr} {t : TT} (h : PW X e t) : PT X e t := h _
noncomputable def PA (X : Cx) (es : List Expr) (t : TA) : Prop :=
  ∀ (pos : Pos) (pins : List (Addr × Obj)) (s : Shared) (σ : St) (H : Hp) (Q : List V → Hp → Prop), Inv X pins σ H s → t σ H Q → wpAny (model X.prog X.w) X.A (spliced (backTo pos (starEach es X.env))) (AP X pins σ Q) X.xe s
noncomputable def PS (X : Cx) (st : Stmt) (t : TS) : Prop :=
  ∀ (pins : List (Addr × Obj)) (s : Shared) (σ : St) (H : Hp) (D : Ends), Inv X pins σ H s → t D σ H → wpAny (model X.prog X.w) X.A (exec st X.env) (SP X pins D) X.xe s
noncomputable def PSs (X : Cx) (st : List Stmt) (t : TS) : Prop :=
  ∀ (pins : List (Addr × Obj)) (s : Shared) (σ : St) (H : Hp) (D : Ends), Inv X pins σ H s → t D σ H → wpAny (model X.prog X.w) X.A (execs st X.env) (SP X pins D) X.xe s
theorem thn {α : Type} {t : Sem α} {Q Q' : α → Shared → Prop} {M : Model} {A : Around} {E : Value → Shared → Prop} {s : Shared} (h : wpAny M A t Q E s) (hQ : ∀ a s, Q a s → Q' a s) : wpAny M A t Q' E s := wpAny_mono h hQ fun _ _ x => x
end L2
namespace L2
open PySem PySem.Spec PyProof.Rows
section
variable {X : Cx}
theorem bin {a b : Expr} {ta tb : TE} (ha : PE X a ta) (hb : PE X b tb) {pins : List (Addr × Obj)} {s : Shared} {σ : St} {H : Hp} {R : V → V → Hp → Prop} (I : Inv X pins σ H s) (h : ta σ H fun x H1 => tb σ H1 fun y H2 => R x y H2)
    {α : Type} {Q : α → Shared → Prop} {f : Value → Value → Sem α}
    (hf : ∀ v u s2 x y H2, Inv X pins σ H2 s2 → RelV x v → RelV y u → R x y H2 → wpAny (model X.prog X.w) X.A (f v u) Q X.xe s2) :
    wpAny (model X.prog X.w) X.A (eval a X.env) (fun v s₁ => wpAny (model X.prog X.w) X.A (eval b X.env) (fun u s₂ => wpAny (model X.prog X.w) X.A (f v u) Q X.xe s₂) X.xe s₁) X.xe s := by
  refine thn (ha pins s σ H _ I h) fun v s1 ⟨x, H1, I1, r1, q1⟩ => ?_
  refine thn (hb pins s1 σ H1 _ I1 q1) fun u s2 ⟨y, H2, I2, r2, q2⟩ => ?_
  exact hf v u s2 x y H2 I2 r1 r2 q2

noncomputable def tVar (i : Nat) : TE := fun σ H Q => ∃ v, σ[i]? = some (some v) ∧ Q v H
noncomputable def tC (v : V) : TE := fun _ H Q => Q v H
theorem pe_var {i : Nat} {x : Str} {pos : Pos} (hN : X.N[i]? = some x) (hv : Vis X.env.scope x) (hd : (x == ("__debug__" : Str)) = false := by decide) (hcd : (x == ("__classdict__" : Str)) = false := by decide) : PE X (.Name x pos) (tVar i) := by
  intro pins s σ H Q I h
  obtain ⟨v, e, h⟩ := h
  obtain ⟨m, hn, hl⟩ := I.loc
  obtain ⟨u, r, l⟩ := hl i x v hN e hv
  have fin : EP X pins σ Q u s := ⟨v, H, I, r, h⟩
  rcases l with ⟨hk, hm⟩ | ⟨hk, c, hc, hcell⟩
  · exact wpAny_Name (wpAny_loadName_local I.ok.kind hk hn hm fin) hd
  · rcases hk with hk | hk
    · exact wpAny_Name (wpAny_loadName_cell I.ok.kind hk hc hcell fin) hd
    · exact wpAny_Name (wpAny_loadName_free I.ok.kind hk hc hcell fin hcd) hd
theorem pe_int {i j pos} : PE X (.Constant (.int i) j pos) (tC (.int i)) := fun _ _ _ H _ I h => wpAny_Constant_int ⟨.int i, H, I.tok _, ⟨_, rfl⟩, h⟩
theorem pe_bl {b j pos} : PE X (.Constant (.bool b) j pos) (tC (.bl b)) := fun _ _ _ H _ I h => Constant_bool ⟨.bl b, H, I, rfl, h⟩
theorem pe_non {j pos} : PE X (.Constant .none j pos) (tC .non) := fun _ _ _ H _ I h => Constant_none ⟨.non, H, I, rfl, h⟩
theorem pe_str {x j pos} : PE X (.Constant (.str x) j pos) (tC (.str x)) := fun _ _ _ H _ I h => Calls.Constant_str ⟨.str x, H, I.tok _, ⟨_, rfl⟩, h⟩

noncomputable def Gl (X : Cx) (x : Str) : Prop := X.env.kindOf x = some .globalImplicit
theorem ld_glob {E : Value → Shared → Prop} {pins : List (Addr × Obj)} {s : Shared} {σ : St} {H : Hp} {x : Str} {u : Value} {pos : Pos} {Q : Value → Shared → Prop} (I : Inv X pins σ H s) (hg : Gl X x) (hm : X.mg x = some u) (h : Q u s)
    (hd : (x == ("__debug__" : Str)) = false := by decide) : wpAny (model X.prog X.w) X.A (eval (.Name x pos) X.env) Q E s :=
  Calls.Name_function_global I.ok.kind hg (Calls.loadGlobal_global (by rw [I.ok.glob]; exact I.mod.glob.keeps I.bk) hm h) hd
theorem ld_blt {E : Value → Shared → Prop} {pins : List (Addr × Obj)} {s : Shared} {σ : St} {H : Hp} {x : Str} {u : Value} {pos : Pos} {Q : Value → Shared → Prop} (I : Inv X pins σ H s) (hg : Gl X x) (hm : X.mg x = none) (hv : bootBuiltins x = some u) (h : Q u s)
    (hn : x ≠ "__name__" := by decide) (hd : (x == ("__debug__" : Str)) = false := by decide) : wpAny (model X.prog X.w) X.A (eval (.Name x pos) X.env) Q E s := by
  obtain ⟨mb, h1, h2⟩ := I.mod.blt
  exact Calls.Name_function_global I.ok.kind hg (Calls.loadGlobal_builtin (by rw [I.ok.glob]; exact I.mod.glob.keeps I.bk) hm (by rw [I.ok.blt]; exact h1.keeps I.bk) ((h2 x hn).trans hv) h) hd
theorem pe_glob {x : Str} {v : V} {u : Value} {pos : Pos} (hg : Gl X x) (hm : X.mg x = some u) (r : RelV v u) (hd : (x == ("__debug__" : Str)) = false := by decide) : PE X (.Name x pos) (tC v) :=
  fun _ _ _ H _ I h => ld_glob I hg hm ⟨v, H, I, r, h⟩ hd
theorem pe_bltn {x : Str} {v : V} {u : Value} {pos : Pos} (hg : Gl X x) (hm : X.mg x = none) (hv : bootBuiltins x = some u) (r : RelV v u) (hn : x ≠ "__name__" := by decide) (hd : (x == ("__debug__" : Str)) = false := by decide) : PE X (.Name x pos) (tC v) :=
  fun _ _ _ H _ I h => ld_blt I hg hm hv ⟨v, H, I, r, h⟩ hn hd

noncomputable def t2I (ta tb : TE) (k : Int → Int → Hp → Prop) : St → Hp → Prop := fun σ H => ta σ H fun x H1 => tb σ H1 fun y H2 => ∃ i j, x = .int i ∧ y = .int j ∧ k i j H2
noncomputable def tAdd (ta tb : TE) : TE := fun σ H Q => t2I ta tb (fun i j H2 => Q (.int (i + j)) H2) σ H
variable {a b : Expr} {ta tb : TE} {pos : Pos}
theorem pe_add (ha : PE X a ta) (hb : PE X b tb) : PE X (.BinOp a .Add b pos) (tAdd ta tb) := by
  intro pins s σ H Q I h
  refine wpAny_BinOp (bin ha hb I h fun v u s2 x y H2 I2 rx ry q => ?_)
  obtain ⟨i, j, rfl, rfl, q⟩ := q
  obtain ⟨t, rfl⟩ := rx
  obtain ⟨t', rfl⟩ := ry
  exact add_int ⟨.int _, H2, I2.tok _, ⟨_, rfl⟩, q⟩
noncomputable def PC (X : Cx) (op : CmpOp) (a b : Expr) (t : TE) : Prop :=
  ∀ (pins : List (Addr × Obj)) (s : Shared) (σ : St) (H : Hp) (Q : VK), Inv X pins σ H s → t σ H Q →
    wpAny (model X.prog X.w) X.A (eval a X.env) (fun v s₁ => wpAny (model X.prog X.w) X.A (eval b X.env) (fun u s₂ => wpAny (model X.prog X.w) X.A (compareOp op v u) (EP X pins σ Q) X.xe s₂) X.xe s₁) X.xe s
theorem nobehind (b : Expr) {op : CmpOp} (h : op ≠ .In) (h2 : op ≠ .NotIn) : behindInMarks op b = false := by
  have e1 : (op == CmpOp.In) = false := by cases op <;> first | rfl | exact absurd rfl h
  have e2 : (op == CmpOp.NotIn) = false := by cases op <;> first | rfl | exact absurd rfl h2
  cases b <;> simp [behindInMarks, e1, e2]
noncomputable def tCmp (p : Int → Int → Bool) (ta tb : TE) : TE := fun σ H Q => t2I ta tb (fun i j H2 => Q (.bl (p i j)) H2) σ H
noncomputable abbrev tNeI : TE → TE → TE := tCmp fun i j => !decide (i = j)
theorem pc_int {op : CmpOp} {p : Int → Int → Bool} (ha : PE X a ta) (hb : PE X b tb)
    (rule : ∀ (i j : Int) (t u : Tok) (Q : Value → Shared → Prop) (s : Shared), Q (.bool (p i j)) s → wpAny (model X.prog X.w) X.A (compareOp op (.int i t) (.int j u)) Q X.xe s) : PC X op a b (tCmp p ta tb) := by
  intro pins s σ H Q I h
  refine bin ha hb I h fun v u s2 x y H2 I2 rx ry q => ?_
  obtain ⟨i, j, rfl, rfl, q⟩ := q
  obtain ⟨t, rfl⟩ := rx
  obtain ⟨t', rfl⟩ := ry
  exact rule i j t t' _ s2 ⟨.bl _, H2, I2, rfl, q⟩
theorem pc_neI (ha : PE X a ta) (hb : PE X b tb) : PC X .NotEq a b (tNeI ta tb) := pc_int ha hb fun _ _ _ _ _ _ h => ne_int (by rw [bne, Bool.beq_eq_decide_eq]; exact h)
noncomputable def tIsN (ta : TE) : TE := fun σ H Q => ta σ H fun x H1 => Q (.bl (decide (x = .non))) H1
theorem RelV.none_iff {x : V} {v : Value} (r : RelV x v) : (v == Value.none) = decide (x = .non) := by
  cases x with
  | non => cases r; rfl
  | bl _ => cases r; rfl
  | int _ => obtain ⟨t, rfl⟩ := r; rfl
  | str _ => obtain ⟨t, rfl⟩ := r; rfl
  | byt _ => obtain ⟨t, rfl⟩ := r; rfl
  | flt _ => obtain ⟨t, rfl⟩ := r; rfl
  | ref _ => cases r; rfl
  | ty _ => cases r; rfl
theorem pc_isN {j pos'} (ha : PE X a ta) : PC X .Is a (.Constant .none j pos') (tIsN ta) := by
  intro pins s σ H Q I h
  refine thn (ha pins s σ H _ I h) fun v s1 ⟨x, H1, I1, r1, q1⟩ => ?_
  exact Constant_none (is_none_gen ⟨.bl _, H1, I1, by rw [r1.none_iff]; rfl, q1⟩)
noncomputable def tB (t : TE) : TT := fun σ H Q => t σ H fun x H1 => ∃ c, x = .bl c ∧ Q c H1
theorem pt_cmp {op : CmpOp} {t : TE} (h : PC X op a b t) (h1 : behindInMarks op b = false := by first | exact nobehind _ (by decide) (by decide) | rfl) : PT X (.Compare a [op] [b] pos) (tB t) := by
  intro pins s σ H Q I hw
  refine wpAny_isTrue_Compare1 (thn (h pins s σ H _ I hw) fun v s1 h1 => thn h1 fun u s2 h2 => thn h2 fun c s3 ⟨x, H1, I1, r1, q1⟩ => ?_) h1
  obtain ⟨d, rfl, q⟩ := q1
  cases r1
  exact wpAny_truthy_bool ⟨H1, I1, q⟩
theorem pt_val {e : Expr} {t : TE} (h : PE X e t) (he : ∀ whole, isTrue e X.env whole = (do let v ← whole; standAt e.pos; holding [v] (truthy v)) := by intro _; rfl) : PT X e (tB t) := by
  intro pins s σ H Q I hw
  refine isTrue_plain (thn (h pins s σ H _ I hw) fun v s1 ⟨x, H1, I1, r1, q1⟩ => ?_) (he _)
  obtain ⟨d, rfl, q⟩ := q1
  cases r1
  exact wpAny_truthy_bool ⟨H1, I1, q⟩

variable {tA tB' : TT} {rest : List Expr}
noncomputable def tAnd (t u : TT) : TT := fun σ H Q => t σ H fun c H1 => if c = true then u σ H1 Q else Q false H1
noncomputable def tOr (t u : TT) : TT := fun σ H Q => t σ H fun c H1 => if c = true then Q true H1 else u σ H1 Q
noncomputable def tNot (t : TT) : TT := fun σ H Q => t σ H fun c H1 => Q (!c) H1
theorem pw_and1 (ha : PT X a tA) : PW X (.BoolOp .And [a] pos) tA := by
  intro wh pins s σ H Q I h
  refine isTrue_and (thn (ha pins s σ H Q I h) fun c s1 e => ?_)
  cases c with
  | true => exact isTrue_and_nil e
  | false => exact e
theorem pw_or1 (ha : PT X a tA) : PW X (.BoolOp .Or [a] pos) tA := by
  intro wh pins s σ H Q I h
  refine isTrue_or (thn (ha pins s σ H Q I h) fun c s1 e => ?_)
  cases c with
  | false => exact isTrue_or_nil e
  | true => exact e
theorem pw_and (ha : PT X a tA) (hb : PW X (.BoolOp .And (b :: rest) pos) tB') : PW X (.BoolOp .And (a :: b :: rest) pos) (tAnd tA tB') := by
  intro wh pins s σ H Q I h
  refine isTrue_and (thn (ha pins s σ H _ I h) fun c s1 ⟨H1, I1, q1⟩ => ?_)
  cases c with
  | true => exact hb wh pins s1 σ H1 Q I1 q1
  | false => exact ⟨H1, I1, q1⟩
theorem pw_or (ha : PT X a tA) (hb : PW X (.BoolOp .Or (b :: rest) pos) tB') : PW X (.BoolOp .Or (a :: b :: rest) pos) (tOr tA tB') := by
  intro wh pins s σ H Q I h
  refine isTrue_or (thn (ha pins s σ H _ I h) fun c s1 ⟨H1, I1, q1⟩ => ?_)
  cases c with
  | true => exact ⟨H1, I1, q1⟩
  | false => exact hb wh pins s1 σ H1 Q I1 q1
theorem pt_not (ha : PT X a tA) : PT X (.UnaryOp .Not a pos) (tNot tA) := by
  intro pins s σ H Q I h
  exact isTrue_not (ha pins s σ H (fun c H1 => Q (!c) H1) I h)
noncomputable def tAndV (ta tb : TE) : TE := fun σ H Q => ta σ H fun x H1 => ∃ c, x = .bl c ∧ if c = true then tb σ H1 Q else Q (.bl false) H1
noncomputable def tOrV (ta tb : TE) : TE := fun σ H Q => ta σ H fun x H1 => ∃ c, x = .bl c ∧ if c = true then Q (.bl true) H1 else tb σ H1 Q
theorem pe_one {op} {t : TE} (h : PE X a t) : PE X (.BoolOp op [a] pos) t := fun pins s σ H Q I hw => BoolOp_one (h pins s σ H Q I hw)
theorem pe_and (ha : PE X a ta) (hb : PE X (.BoolOp .And (b :: rest) pos) tb) : PE X (.BoolOp .And (a :: b :: rest) pos) (tAndV ta tb) := by
  intro pins s σ H Q I h
  refine BoolOp_and (thn (ha pins s σ H _ I h) fun v s1 ⟨x, H1, I1, r1, q1⟩ => ?_)
  obtain ⟨c, rfl, q1⟩ := q1
  cases r1
  refine wpAny_truthy_bool ?_
  cases c with
  | true => exact hb pins s1 σ H1 Q I1 q1
  | false => exact ⟨.bl false, H1, I1, rfl, q1⟩
theorem pe_or (ha : PE X a ta) (hb : PE X (.BoolOp .Or (b :: rest) pos) tb) : PE X (.BoolOp .Or (a :: b :: rest) pos) (tOrV ta tb) := by
  intro pins s σ H Q I h
  refine BoolOp_or (thn (ha pins s σ H _ I h) fun v s1 ⟨x, H1, I1, r1, q1⟩ => ?_)
  obtain ⟨c, rfl, q1⟩ := q1
  cases r1
  refine wpAny_truthy_bool ?_
  cases c with
  | false => exact hb pins s1 σ H1 Q I1 q1
  | true => exact ⟨.bl true, H1, I1, rfl, q1⟩
end
end L2
namespace L2
open PySem PySem.Spec PyProof.Rows
noncomputable def SqL (K : PySem.W.Frag) (H : Hp) (a : Addr) (xs : List V) : Prop :=
  Rd H a (.lst xs) ∨
    ∃ (o : Obj) (its : Array Value) (n : Nat), K.lookup a = some o ∧ o.cls = .type "list" ∧ o.dict = none ∧ o.data = .seq its n ∧ its.size ≤ sizeLine ∧ Vals xs its.toList
noncomputable def SqT (K : PySem.W.Frag) (H : Hp) (a : Addr) (xs : List V) : Prop :=
  Rd H a (.tup xs) ∨
    ∃ (o : Obj) (its : Array Value) (n : Nat), K.lookup a = some o ∧ o.cls = .type "tuple" ∧ o.data = .seq its n ∧ its.size ≤ sizeLine ∧ Vals xs its.toList
noncomputable def absV : Value → Option V
  | .none => some .non
  | .bool b => some (.bl b)
  | .int i _ => some (.int i)
  | .str x _ => some (.str x)
  | .bytes b _ => some (.byt b)
  | .float b _ => some (.flt b)
  | .ref a => some (.ref a)
  | .type n => some (.ty n)
  | _ => none
theorem RelV.abs {x : V} {u : Value} (r : RelV x u) : absV u = some x := by
  cases x with
  | non => cases r; rfl
  | bl _ => cases r; rfl
  | int _ => obtain ⟨t, rfl⟩ := r; rfl
  | str _ => obtain ⟨t, rfl⟩ := r; rfl
  | byt _ => obtain ⟨t, rfl⟩ := r; rfl
  | flt _ => obtain ⟨t, rfl⟩ := r; rfl
  | ref _ => cases r; rfl
  | ty _ => cases r; rfl
theorem RelV.inj {x y : V} {u : Value} (r : RelV x u) (q : RelV y u) : x = y := Option.some.inj (r.abs.symm.trans q.abs)
theorem Vals.inj : ∀ {xs ys : List V} {us : List Value}, Vals xs us → Vals ys us → xs = ys
  | _, _, _, .nil, .nil => rfl
  | _, _, _, .cons r t, .cons r' t' => by rw [r.inj r', Vals.inj t t']
section
variable {X : Cx} {pins : List (Addr × Obj)} {σ : St} {H : Hp} {s : Shared} {a : Addr} {xs ys : List V}
theorem SqL.of {K : PySem.W.Frag} (h : H a = some (.lst xs)) : SqL K H a xs := .inl (.inl h)
theorem SqT.of {K : PySem.W.Frag} (h : H a = some (.tup xs)) : SqT K H a xs := .inl (.inl h)
theorem Inv.list (I : Inv X pins σ H s) (h : SqL X.K H a xs) : ∃ its : List Value, Vals xs its ∧ PlainL s.heap a its.toArray ∧ xs.length ≤ sizeLine := by
  rcases h with h | ⟨o, its, n, hk, hc, hd, hs, hz, r⟩
  · obtain ⟨z, its, n, r, e⟩ := h.ok I.hok
    exact ⟨its, r, ⟨_, n, e, rfl, rfl, rfl⟩, z⟩
  · refine ⟨its.toList, r, ⟨o, n, I.kIn a o hk, hc, hd, by simpa using hs⟩, ?_⟩
    have e := r.length
    simp only [Array.length_toList] at e
    omega
theorem Inv.tuple (I : Inv X pins σ H s) (h : SqT X.K H a xs) : ∃ its : List Value, Vals xs its ∧ IsTup s.heap a its.toArray ∧ xs.length ≤ sizeLine := by
  rcases h with h | ⟨o, its, n, hk, hc, hs, hz, r⟩
  · obtain ⟨z, its, r, p⟩ := h.ok I.hok
    exact ⟨its, r, p, z⟩
  · refine ⟨its.toList, r, ⟨o, I.kIn a o hk, hc, n, by simpa using hs⟩, ?_⟩
    have e := r.length
    simp only [Array.length_toList] at e
    omega
theorem Inv.list_inj (I : Inv X pins σ H s) (h : SqL X.K H a xs) (h' : SqL X.K H a ys) : xs = ys := by
  obtain ⟨its, r, ⟨o, n, e, _, _, d⟩, _⟩ := I.list h
  obtain ⟨its', r', ⟨o', n', e', _, _, d'⟩, _⟩ := I.list h'
  rw [e] at e'; cases e'
  rw [d] at d'
  injection d' with d1 _
  have : its = its' := by simpa using congrArg Array.toList d1
  subst this
  exact r.inj r'
end
noncomputable abbrev Cx.wish (X : Cx) (E : Value → Shared → Prop) : Cx := { X with xe := E }
noncomputable abbrev Cx.nox (X : Cx) : Cx := X.wish fun _ _ => False
theorem Cx.Ok.wish {X : Cx} (ok : X.Ok) (E : Value → Shared → Prop) : (X.wish E).Ok :=
  ⟨ok.mod, ok.kind, ok.glob, ok.blt, ok.above, ok.inj, ok.has, ok.cab, ok.hd, ok.frames, ok.stk, ok.exf, ok.bs, ok.bsz, ok.noex, ok.exfs, ok.funs, ok.frf⟩
theorem Cx.Ok.unwish {X : Cx} {E : Value → Shared → Prop} (ok : (X.wish E).Ok) : X.Ok :=
  ⟨ok.mod, ok.kind, ok.glob, ok.blt, ok.above, ok.inj, ok.has, ok.cab, ok.hd, ok.frames, ok.stk, ok.exf, ok.bs, ok.bsz, ok.noex, ok.exfs, ok.funs, ok.frf⟩
section
variable {X : Cx} {pins : List (Addr × Obj)} {σ : St} {H : Hp} {s : Shared} {E : Value → Shared → Prop}
theorem Inv.wish (I : Inv X pins σ H s) (E : Value → Shared → Prop) : Inv (X.wish E) pins σ H s := ⟨I.ok.wish E, I.os, I.bare, I.base, I.loc, I.cell, I.free, I.freeC, I.pin, I.hok, I.len⟩
theorem Inv.unwish (I : Inv (X.wish E) pins σ H s) : Inv X pins σ H s := ⟨I.ok.unwish, I.os, I.bare, I.base, I.loc, I.cell, I.free, I.freeC, I.pin, I.hok, I.len⟩
theorem SP.unwish {D : Ends} {f : Flow} {s' : Shared} (h : SP (X.wish E) pins D f s') : SP X pins D f s' := by
  cases f with
  | next => obtain ⟨σ', H', I, q⟩ := h; exact ⟨σ', H', I.unwish, q⟩
  | brk => obtain ⟨σ', H', I, q⟩ := h; exact ⟨σ', H', I.unwish, q⟩
  | cont => obtain ⟨σ', H', I, q⟩ := h; exact ⟨σ', H', I.unwish, q⟩
  | ret u => obtain ⟨v, σ', H', I, r, q⟩ := h; exact ⟨v, σ', H', I.unwish, r, q⟩
theorem PSs.nox {st : List Stmt} {t : TS} (h : PSs X.nox st t) : PSs X st t := fun pins s σ H D I hw =>
  wpAny_mono (h pins s σ H D (I.wish _) hw) (fun _ _ q => q.unwish) fun _ _ z => False.elim z
end
section
variable {X : Cx} {st : Stmt} {rest : List Stmt} {t u : TS} {e : Expr} {te : TE} {pos : Pos}
noncomputable def tNext : TS := fun D σ H => D.nx σ H
noncomputable def tSeq (t u : TS) : TS := fun D σ H => t { D with nx := u D } σ H
theorem pss_nil : PSs X [] tNext := fun _ _ σ H _ I h => wpAny_execs_nil ⟨σ, H, I, h⟩
theorem pss_cons (h1 : PS X st t) (h2 : PSs X rest u) : PSs X (st :: rest) (tSeq t u) := by
  intro pins s σ H D I h
  refine wpAny_execs_cons (thn (h1 pins s σ H { D with nx := u D } I h) fun f s1 q => ?_)
  cases f with
  | next =>
    obtain ⟨σ', H', I', q⟩ := q
    exact h2 pins s1 σ' H' D I' q
  | ret v => exact q
  | brk => exact q
  | cont => exact q
theorem pss_one (h1 : PS X st t) : PSs X [st] t := by
  intro pins s σ H D I h
  refine wpAny_execs_cons (thn (h1 pins s σ H D I h) fun f s1 q => ?_)
  cases f with
  | next => exact wpAny_execs_nil q
  | ret v => exact q
  | brk => exact q
  | cont => exact q
noncomputable def tCont : TS := fun D σ H => D.ct σ H
theorem ps_continue : PS X (.Continue pos) tCont := fun _ _ σ H _ I h => wpAny_Continue ⟨σ, H, I, h⟩
theorem Inv.quiet {pins : List (Addr × Obj)} {σ : St} {H : Hp} {s : Shared} (I : Inv X pins σ H s) : interactive X.env = false := by simp [interactive, I.ok.kind]
noncomputable def tDrop (te : TE) : TS := fun D σ H => te σ H fun _ H1 => D.nx σ H1
theorem ps_expr (he : PE X e te) (hs : swapsWith e none pos.line X.env = pure false := by rfl) : PS X (.Expr e pos) (tDrop te) := by
  intro pins s σ H D I h
  exact wpAny_Expr_any (thn (he pins s σ H _ I h) fun v s1 ⟨x, H1, I1, r1, q1⟩ => ⟨σ, H1, I1, q1⟩) I.quiet hs
noncomputable def tRet (te : TE) : TS := fun D σ H => te σ H D.rt
theorem ps_ret (he : PE X e te) : PS X (.Return (some e) pos) (tRet te) := by
  intro pins s σ H D I h
  exact wpAny_Return_some (thn (he pins s σ H _ I h) fun v s1 ⟨x, H1, I1, r1, q1⟩ => ⟨x, σ, H1, I1, r1, q1⟩)
noncomputable def tIfS (c : TT) (t u : TS) : TS := fun D σ H => c σ H fun b H1 => if b = true then t D σ H1 else u D σ H1
theorem ps_if {c : Expr} {a b : List Stmt} {tc : TT} (hc : PT X c tc) (ha : PSs X a t) (hb : PSs X b u) : PS X (.If c a b pos) (tIfS tc t u) := by
  intro pins s σ H D I h
  refine wpAny_If (thn (hc pins s σ H _ I h) fun d s1 ⟨H1, I1, q1⟩ => ?_)
  cases d with
  | true => exact ha pins s1 σ H1 D I1 q1
  | false => exact hb pins s1 σ H1 D I1 q1
end
noncomputable abbrev TG := V → St → Hp → (St → Hp → Prop) → Prop
noncomputable abbrev TGs := List V → St → Hp → (St → Hp → Prop) → Prop
noncomputable def PG (X : Cx) (target : Expr) (t : TG) : Prop :=
  ∀ (pins : List (Addr × Obj)) (s : Shared) (σ : St) (H : Hp) (v : V) (u : Value) (Q : St → Hp → Prop), Inv X pins σ H s → RelV v u → t v σ H Q →
    wpAny (model X.prog X.w) X.A (assign target X.env u) (fun _ s' => ∃ σ' H', Inv X pins σ' H' s' ∧ Q σ' H') X.xe s
noncomputable def PGs (X : Cx) (ts : List Expr) (t : TGs) : Prop :=
  ∀ (pins : List (Addr × Obj)) (s : Shared) (σ : St) (H : Hp) (vs : List V) (us : List Value) (Q : St → Hp → Prop), Inv X pins σ H s → Vals vs us → t vs σ H Q →
    wpAny (model X.prog X.w) X.A (assignInOrder ((assignEach ts X.env).map (·.2)) us) (fun _ s' => ∃ σ' H', Inv X pins σ' H' s' ∧ Q σ' H') X.xe s
noncomputable abbrev TSet := V → V → V → Hp → (Hp → Prop) → Prop
noncomputable def PSet (X : Cx) (t : TSet) : Prop :=
  ∀ (pins : List (Addr × Obj)) (s : Shared) (σ : St) (H : Hp) (o i v : V) (ov iv u : Value) (Q : Hp → Prop), Inv X pins σ H s → RelV o ov → RelV i iv → RelV v u → t o i v H Q →
    wpAny (model X.prog X.w) X.A (setItem ov iv u) (fun _ s' => ∃ H', Inv X pins σ H' s' ∧ Q H') X.xe s
section
variable {X : Cx} {pos : Pos}
noncomputable def gName (i : Nat) : TG := fun v σ H Q => Q (σ.set i (some v)) H
theorem pg_name {i : Nat} {x : Str} (hN : X.N.Nodup) (hi : X.N[i]? = some x) (hx : Loc X.env.scope x) (hf : X.fn x = true ∨ X.env.scope.names.lookup x = some .local := by first | exact .inl rfl | exact .inr rfl | assumption) : PG X (.Name x pos) (gName i) := by
  intro pins s σ H v u Q I r h
  exact wpAny_assign_Name (store_ok I hN hi hx r (fun s' I' => ⟨_, H, I', h⟩) hf)
noncomputable def gNil : TGs := fun vs σ H Q => vs = [] ∧ Q σ H
noncomputable def gCons (t : TG) (u : TGs) : TGs := fun vs σ H Q => ∃ v r, vs = v :: r ∧ t v σ H fun σ' H' => u r σ' H' Q
theorem pgs_nil : PGs X [] gNil := by
  intro pins s σ H vs us Q I r h
  obtain ⟨e, h⟩ := h
  subst e
  cases r
  exact assignInOrder_nil ⟨σ, H, I, h⟩
theorem pgs_cons {e : Expr} {es : List Expr} {t : TG} {u : TGs} (h1 : PG X e t) (h2 : PGs X es u)
    (hs : (assignEach (e :: es) X.env).map (·.2) = assign e X.env :: (assignEach es X.env).map (·.2) := by rfl) : PGs X (e :: es) (gCons t u) := by
  intro pins s σ H vs us Q I r h
  obtain ⟨v, vr, e1, h⟩ := h
  subst e1
  cases r with
  | cons r rr =>
    rw [hs]
    refine assignInOrder_cons (thn (h1 pins s σ H _ _ _ I r h) fun _ s1 ⟨σ1, H1, I1, q1⟩ => ?_)
    exact h2 pins s1 σ1 H1 _ _ Q I1 rr q1
noncomputable def gTup (K : PySem.W.Frag) (n : Nat) (t : TGs) : TG := fun v σ H Q => ∃ a xs, v = .ref a ∧ SqT K H a xs ∧ xs.length = n ∧ t xs σ H Q
theorem pg_tup {es : List Expr} {k : Nat} {t : TGs} {n : Nat} (hc : X.calm = true) (h : PGs X es t)
    (hn : (assignEach es X.env).length = n := by rfl) (hst : (assignEach es X.env).findIdx? (·.1) = none := by rfl) : PG X (.Tuple es k pos) (gTup X.K n t) := by
  intro pins s σ H v u Q I r hw
  obtain ⟨a, xs, e1, hq, hl, hw⟩ := hw
  subst e1
  cases r
  obtain ⟨its, rv, ht, hz⟩ := I.tuple hq
  refine assign_Tuple_tuple (I.ok.hd hc) ht (by simp [hn, ← hl, rv.length]) hst fun h' hx => ?_
  have I1 : Inv X pins σ H { s with heap := h' } := I.kept (t' := s.toks) fun b o e => hx b o (Nat.ne_of_lt (Heap.lt_size e)) e
  exact h pins _ σ H xs _ Q I1 (by simpa using rv) hw
noncomputable def gSub (to ti : TE) (t : TSet) : TG := fun v σ H Q => to σ H fun o H1 => ti σ H1 fun i H2 => t o i v H2 fun H3 => Q σ H3
theorem pg_sub {o i : Expr} {to ti : TE} {t : TSet} (ho : PE X o to) (hi : PE X i ti) (hs : PSet X t)
    (ha : ∀ v, assign (.Subscript o i pos) X.env v = (do
      let ov ← holding [v] (eval o X.env)
      let iv ← holding [v, ov] (eval i X.env)
      standAt pos
      holding [v, ov, iv] (setItem ov iv v)
      release [v, ov, iv] []) := by intro _; rfl) : PG X (.Subscript o i pos) (gSub to ti t) := by
  intro pins s σ H v u Q I r h
  rw [ha]
  refine wpAny_bind (wpAny_holding (thn (ho pins s σ H _ I h) fun ov s1 ⟨x, H1, I1, r1, q1⟩ => ?_))
  refine wpAny_bind (wpAny_holding (thn (hi pins s1 σ H1 _ I1 q1) fun iv s2 ⟨y, H2, I2, r2, q2⟩ => ?_))
  refine wpAny_bind (wpAny_standAt (wpAny_bind (wpAny_holding (thn (hs pins s2 σ H2 x y v ov iv u _ I2 r1 r2 r q2) fun _ s3 ⟨H3, I3, q3⟩ => ?_))))
  exact wpAny_release ⟨σ, H3, I3, q3⟩
noncomputable def tAsg (te : TE) (g : TG) : TS := fun D σ H => te σ H fun x H1 => g x σ H1 D.nx
theorem ps_asg {tg e : Expr} {te : TE} {g : TG} (he : PE X e te) (hg : PG X tg g) (hs : swapsWithSole [tg] e pos.line X.env = pure false := by rfl) (hw : swappedStores [tg] e X.env = pure none := by rfl)
    (h1 : (assignEach [tg] X.env).map (·.2) = [assign tg X.env] := by rfl) : PS X (.Assign [tg] e pos) (tAsg te g) := by
  intro pins s σ H D I h
  refine wpAny_Assign_stores (thn (he pins s σ H _ I h) fun v s1 ⟨x, H1, I1, r1, q1⟩ => ?_) hs hw
  rw [h1]
  exact thn (hg pins s1 σ H1 x v _ I1 r1 q1) fun _ s2 q => q
theorem ps_set {i : Nat} {x : Str} {e : Expr} {te : TE} {pos' : Pos} (hN : X.N.Nodup) (hi : X.N[i]? = some x) (hx : Loc X.env.scope x) (he : PE X e te) (hs : swapsWith e (some (.Name x pos')) pos.line X.env = pure false := by rfl) (hf : X.fn x = true ∨ X.env.scope.names.lookup x = some .local := by first | exact .inl rfl | exact .inr rfl | assumption) :
    PS X (.Assign [.Name x pos'] e pos) (tAsg te (gName i)) := by
  intro pins s σ H D I h
  refine wpAny_Assign_Name (thn (he pins s σ H _ I h) fun v s1 ⟨y, H1, I1, r1, q1⟩ => ?_) hs
  exact store_ok I1 hN hi hx r1 (fun s2 I2 => ⟨_, H1, I2, q1⟩) hf
end
section
variable {X : Cx} {pos : Pos}
end
structure It where
  go : Nat → Hp → Prop
  yld : Nat → Hp → V → Hp → Prop
  stop : Nat → Hp → Prop
noncomputable def FpOk (X : Cx) (pins : List (Addr × Obj)) (H : Hp) (b : Addr) : Prop :=
  H b = none ∧ b ≠ X.env.locals ∧ b ∉ X.fs ∧ (b ∈ X.ex ∨ X.s₀.heap.objs.size ≤ b) ∧ (∀ x c, X.env.cells.lookup x = some c → c ≠ b) ∧ ∀ p ∈ X.pn ++ pins, p.1 ≠ b
theorem Inv.fpOk {X : Cx} {pins : List (Addr × Obj)} {σ : St} {H H' : Hp} {s : Shared} {b : Addr} (I : Inv X pins σ H s) (hb : s.heap.objs.size ≤ b) (hn : H' b = none) : FpOk X pins H' b := by
  refine ⟨hn, Nat.ne_of_gt (Nat.lt_of_lt_of_le I.lt hb), I.nofs hb, .inr (Nat.le_trans I.sz hb), fun x c e z => ?_, fun p hp z => ?_⟩
  · obtain ⟨v, q⟩ := I.cell x c e
    exact absurd (Nat.lt_of_lt_of_le q.lt (by rw [z]; exact hb)) (Nat.lt_irrefl _)
  · exact absurd (Nat.lt_of_lt_of_le (Heap.lt_size (I.pin p hp).1) (by rw [z]; exact hb)) (Nat.lt_irrefl _)
structure Turn (P : Program) (w : World) (K : PySem.W.Frag) (tg : Expr) (J : It) (fp : List Addr) (it : Addr) (tn : Nat → Heap → Prop) : Prop where
  mem : it ∈ fp
  obj : ∀ i h, tn i h → ∀ b ∈ fp, ∃ o, h.get? b = some o ∧ ∀ v, o.data ≠ .cell v
  keep : ∀ i h h', tn i h → (∀ b ∈ fp, ∀ o, h.get? b = some o → h'.get? b = some o) → tn i h'
  item : ∀ (X : Cx), X.prog = P → X.w = w → X.K = K → X.calm = true → ∀ (i : Nat) (pins : List (Addr × Obj)) (s : Shared) (σ : St) (H : Hp) (E : Value → Shared → Prop), Inv X pins σ H s → (∀ b ∈ fp, FpOk X pins H b) → tn i s.heap → J.go i H →
    wpAny (model P w) X.A (pyNext (.ref it)) (fun r s1 => ∃ u, r = some u ∧
      wpAny (model P w) X.A (letOwnedTupleGo tg (.ref it) u) (fun _ s2 => ∃ x H', Inv X pins σ H' s2 ∧ RelV x u ∧ J.yld i H x H' ∧ tn (i + 1) s2.heap ∧ ∀ b ∈ fp, H' b = none) E s1) E s
  done : ∀ (X : Cx), X.prog = P → X.w = w → X.K = K → X.calm = true → ∀ (i : Nat) (pins : List (Addr × Obj)) (s : Shared) (σ : St) (H : Hp) (E : Value → Shared → Prop), Inv X pins σ H s → (∀ b ∈ fp, FpOk X pins H b) → tn i s.heap → J.stop i H →
    wpAny (model P w) X.A (pyNext (.ref it)) (fun r s1 => r = none ∧ Inv X pins σ H s1) E s
  self : ∀ (A : Around) (i : Nat) (s : Shared) (Q : Value → Shared → Prop) (E : Value → Shared → Prop), tn i s.heap → Q (.ref it) s → wpAny (model P w) A (pyIter (.ref it)) Q E s
noncomputable abbrev TI := St → Hp → (It → Hp → Prop) → Prop
noncomputable def PIE (X : Cx) (pins : List (Addr × Obj)) (σ : St) (tg : Expr) (R : It → Hp → Prop) (itv : Value) (s2 : Shared) : Prop :=
  ∃ (it : Addr) (fp : List Addr) (tn : Nat → Heap → Prop) (J : It) (H' : Hp), itv = .ref it ∧ Inv X pins σ H' s2 ∧ Turn X.prog X.w X.K tg J fp it tn ∧ tn 0 s2.heap ∧ (∀ b ∈ fp, FpOk X pins H' b) ∧ R J H'
noncomputable def PI (X : Cx) (tg iter : Expr) (wi : TI) : Prop :=
  ∀ (pins : List (Addr × Obj)) (s : Shared) (σ : St) (H : Hp) (R : It → Hp → Prop), Inv X pins σ H s → wi σ H R →
    wpAny (model X.prog X.w) X.A (eval iter X.env) (fun v s1 => wpAny (model X.prog X.w) X.A (pyIter v) (PIE X pins σ tg R) X.xe s1) X.xe s

theorem go_of {M : Model} {A : Around} {E : Value → Shared → Prop} {s : Shared} {tg : Expr} {it : Addr} {u : Value} {o : Obj} {n : String} {vs : Array Value} {Q : Unit → Shared → Prop} (ho : s.heap.get? it = some o) (hc : o.cls = .type n) (hd : o.data = .fields vs)
    (hn : ["enumerate", "zip", "dict_itemiterator", "dict_reverseitemiterator", "odict_iterator", "itertools.zip_longest", "itertools.pairwise"].contains n = false) (hQ : Q () s) : wpAny M A (letOwnedTupleGo tg (.ref it) u) Q E s := by
  unfold letOwnedTupleGo
  cases tg <;> first
    | exact wpAny_pure hQ
    | (cases u <;> first
        | exact wpAny_pure hQ
        | (refine wpAny_bind (wpAny_load ho ?_)
           rw [hc, hd]
           show wpAny M A (if (["enumerate", "zip", "dict_itemiterator", "dict_reverseitemiterator", "odict_iterator", "itertools.zip_longest", "itertools.pairwise"].contains n && vs[0]? == some (rawInt _)) = true then _ else _) Q E s
           rw [if_neg (by intro h; rw [hn, Bool.false_and] at h; cases h)]
           exact wpAny_pure hQ))

noncomputable def Itl (K : PySem.W.Frag) (a : Addr) : It :=
  ⟨fun i H => ∃ xs x, SqL K H a xs ∧ xs[i]? = some x, fun i H x H' => H' = H ∧ ∀ xs, SqL K H a xs → xs[i]? = some x, fun i H => ∃ xs, SqL K H a xs ∧ xs.length ≤ i⟩
noncomputable def Itr (lo : Int) (n : Nat) : It := ⟨fun i _ => i < n, fun i H x H' => H' = H ∧ x = .int (lo + i), fun i _ => n ≤ i⟩
theorem turn_list {P : Program} {w : World} {K : PySem.W.Frag} {tg : Expr} (a it : Addr) : Turn P w K tg (Itl K a) [it] it (fun i h => h.IsListIter it a i) where
  mem := by simp
  obj := fun i h st b hb => by
    have e : b = it := by simpa using hb
    subst e
    obtain ⟨o, e, c, d⟩ := st
    exact ⟨o, e, fun v z => by rw [d] at z; cases z⟩
  keep := fun i h h' st k => st.at fun o e => k it (by simp) o e
  item := by
    intro X hP hw hK hc i pins s σ H E I hf st hg
    subst hP hw hK
    obtain ⟨xs, x, hq, hx⟩ := hg
    obtain ⟨its, rv, p, hz⟩ := I.list hq
    obtain ⟨u, hu, ru⟩ := rv.get hx
    obtain ⟨f0, f1, f2, f3, f4, f5⟩ := hf it (by simp)
    refine wpAny_pyNext_list_item st p.isList (x := u) (by simpa using hu) fun h' st' sb => ?_
    have I1 : Inv X pins σ H { s with heap := h' } := I.turned (t' := s.toks) (fun b o hb e => (sb.2 b hb).trans e) f0 f1 f3 f4 f5
    obtain ⟨o, e, c, d⟩ := id st'
    exact ⟨u, rfl, go_of (s := { s with heap := h' }) e c d (by decide) ⟨x, H, I1, ru, ⟨rfl, fun ys hy => by rw [I.list_inj hy hq]; exact hx⟩, st', fun b hb => (hf b hb).1⟩⟩
  done := by
    intro X hP hw hK hc i pins s σ H E I hf st hg
    subst hP hw hK
    obtain ⟨xs, hq, hx⟩ := hg
    obtain ⟨its, rv, p, hz⟩ := I.list hq
    obtain ⟨f0, f1, f2, f3, f4, f5⟩ := hf it (by simp)
    have hl := rv.length
    exact wpAny_pyNext_list_end (I.ok.hd hc) st p.isList (by simp; omega) fun h' eb => ⟨rfl, I.turned (t' := s.toks) (fun b o hb e => eb b o hb e) f0 f1 f3 f4 f5⟩
  self := fun _ _ _ _ _ st h => wpAny_pyIter_listiter st h
theorem turn_range {P : Program} {w : World} {K : PySem.W.Frag} {tg : Expr} (it : Addr) (lo : Int) (n : Nat) : Turn P w K tg (Itr lo n) [it] it (fun i h => IsRangeIter h it (lo + (i : Nat) * 1) ((n : Int) - (i : Nat)) 1) where
  mem := by simp
  obj := fun i h st b hb => by
    have e : b = it := by simpa using hb
    subst e
    exact ⟨_, st, fun v z => by
      have z' : Data.fields _ = Data.cell v := z
      cases z'⟩
  keep := fun i h h' st k => k it (by simp) _ st
  item := by
    intro X hP hw hK hc i pins s σ H E I hf st hg
    subst hP hw hK
    obtain ⟨f0, f1, f2, f3, f4, f5⟩ := hf it (by simp)
    have W := Walks.range (prog := X.prog) (w := X.w) (I.ok.hd hc) it lo 1 n
    refine W.item i s _ _ hg st fun v h' tk hv st' kk => ?_
    obtain ⟨t, rfl⟩ := hv
    have I1 : Inv X pins σ H { s with heap := h', toks := tk } := I.turned (fun b o hb e => kk b o (by simpa using hb) e) f0 f1 f3 f4 f5
    refine ⟨_, rfl, go_of (s := { s with heap := h', toks := tk }) (n := "range_iterator") st' rfl rfl (by decide) ⟨.int (lo + i), H, I1, ⟨t, ?_⟩, ⟨rfl, rfl⟩, st', fun b hb => (hf b hb).1⟩⟩
    rw [Int.mul_one]
  done := by
    intro X hP hw hK hc i pins s σ H E I hf st hg
    subst hP hw hK
    obtain ⟨f0, f1, f2, f3, f4, f5⟩ := hf it (by simp)
    exact wpAny_pyNext_range_end (I.ok.hd hc) st (by have : n ≤ i := hg; omega) fun h' eb => ⟨rfl, I.turned (t' := s.toks) (fun b o hb e => eb b o hb e) f0 f1 f3 f4 f5⟩
  self := fun _ _ _ _ _ st h => wpAny_pyIter_rangeiter st h
end L2
namespace L2
open PySem PySem.Spec PyProof.Rows
section
variable {X : Cx} {tg : Expr}
noncomputable def iList (K : PySem.W.Frag) (tl : TE) : TI := fun σ H R => tl σ H fun x H1 => ∃ a, x = .ref a ∧ (∃ xs, SqL K H1 a xs) ∧ R (Itl K a) H1
theorem pi_list {l : Expr} {tl : TE} (hl : PE X l tl) : PI X tg l (iList X.K tl) := by
  intro pins s σ H R I h
  refine thn (hl pins s σ H _ I h) fun v s1 ⟨x, H1, I1, r1, q1⟩ => ?_
  obtain ⟨a, e, ⟨xs, hq⟩, q⟩ := q1
  subst e
  cases r1
  obtain ⟨its, rv, p, hz⟩ := I1.list hq
  refine wpAny_pyIter_list p.isList ?_
  refine ⟨s1.heap.objs.size, [s1.heap.objs.size], _, _, H1, rfl, I1.kept (t' := s1.toks) fun b o e => Heap.get?_push_of_some _ e, turn_list a _, ⟨_, Heap.get?_push_size _ rfl, rfl, rfl⟩, fun b hb => ?_, q⟩
  have e : b = s1.heap.objs.size := by simpa using hb
  subst e
  exact I1.fpOk (Nat.le_refl _) (I1.hok.fresh (Nat.le_refl _))
theorem range_it {pins : List (Addr × Obj)} {σ : St} {H : Hp} {s : Shared} {R : It → Hp → Prop} {E : Value → Shared → Prop} {lo hi : Int} {t u v : Tok} {tk : Nat} (I : Inv X pins σ H s) (h1 : -(2 ^ 62) ≤ lo) (h2 : lo < 2 ^ 62) (h3 : -(2 ^ 62) ≤ hi) (h4 : hi < 2 ^ 62)
    (q : R (Itr lo (hi - lo).toNat) H) : wpAny (model X.prog X.w) X.A (pyIter (.ref s.heap.objs.size)) (PIE X pins σ tg R) E { s with heap := s.heap.push { cls := .type "range", data := .fields #[.int lo t, .int hi u, .int 1 v] }, toks := tk } := by
  refine wpAny_pyIter_range (IsRange.new ..) (small_one h1 h2 h3 h4) ?_
  have I1 : Inv X pins σ H { s with heap := s.heap.push { cls := .type "range", data := .fields #[.int lo t, .int hi u, .int 1 v] }, toks := tk } := I.kept fun b o e => Heap.get?_push_of_some _ e
  refine ⟨(s.heap.push { cls := .type "range", data := .fields #[.int lo t, .int hi u, .int 1 v] }).objs.size, [(s.heap.push { cls := .type "range", data := .fields #[.int lo t, .int hi u, .int 1 v] }).objs.size], _, _, H, rfl,
    I1.kept (t' := tk) fun b o e => Heap.get?_push_of_some _ e, turn_range _ lo (hi - lo).toNat, ?_, fun b hb => ?_, q⟩
  · have e1 : lo + ((0 : Nat) : Int) * 1 = lo := by simp
    have e2 : (((hi - lo).toNat : Nat) : Int) - ((0 : Nat) : Int) = Builtin.Range.rangeSize lo hi 1 := by rw [rangeSize_one]; split <;> omega
    show IsRangeIter _ _ (lo + ((0 : Nat) : Int) * 1) ((((hi - lo).toNat : Nat) : Int) - ((0 : Nat) : Int)) 1
    rw [e1, e2]
    exact Heap.get?_push_size _ rfl
  · have e : b = (s.heap.push { cls := .type "range", data := .fields #[.int lo t, .int hi u, .int 1 v] }).objs.size := by simpa using hb
    subst e
    exact I1.fpOk (Nat.le_refl _) (I1.hok.fresh (Nat.le_refl _))
noncomputable def iRng1 (ta : TA) : TI := fun σ H R => ta σ H fun vs H1 => ∃ j : Int, vs = [.int j] ∧ -(2 ^ 62) ≤ j ∧ j < 2 ^ 62 ∧ R (Itr 0 j.toNat) H1
theorem pi_range1 {a : Expr} {ta : TA} {p pos : Pos} (hg : Gl X "range") (hm : X.mg "range" = none) (ha : PA X [a] ta) (hs : starEach [a] X.env = [(false, eval a X.env)] := by rfl) : PI X tg (.Call (.Name "range" p) [a] [] pos) (iRng1 ta) := by
  intro pins s σ H R I h
  refine Call_ (ld_blt I hg hm boot_range (PyProof.Rows.callWith_type1 (thn (ha pos pins s σ H _ I h) fun us s1 ⟨vs, H1, I1, r1, q1⟩ => ?_) hs rfl))
  obtain ⟨j, e, q1, q2, q⟩ := q1
  subst e
  cases r1 with
  | cons r rr =>
    cases rr
    obtain ⟨t, rfl⟩ := r
    exact call_range_1 (range_it I1 (by omega) (by omega) q1 q2 (by simpa using q))
noncomputable def tFor (wi : TI) (g : TG) (tb : TS) : TS := fun D σ H => wi σ H fun J H1 => ∃ W : Nat → Nat → St → Hp → Prop, (∃ m, W 0 m σ H1) ∧ ∀ i m σ H, W i m σ H →
  (J.stop i H ∧ D.nx σ H) ∨ (J.go i H ∧ ∃ N : St → Hp → Prop, (∀ σ' H', N σ' H' → ∃ m', m' < m ∧ W (i + 1) m' σ' H') ∧ ∀ x H', J.yld i H x H' → g x σ H' fun σ2 H2 => tb { D with nx := N, ct := N, bk := D.nx } σ2 H2)
noncomputable def pinsAt (fp : List Addr) (h : Heap) : List (Addr × Obj) := fp.filterMap fun b => (h.get? b).map fun o => (b, o)
theorem mem_pinsAt {fp : List Addr} {h : Heap} {b : Addr} {o : Obj} (hb : b ∈ fp) (e : h.get? b = some o) : (b, o) ∈ pinsAt fp h := List.mem_filterMap.mpr ⟨b, hb, by rw [e]; rfl⟩
theorem of_pinsAt {fp : List Addr} {h : Heap} {p : Addr × Obj} (hp : p ∈ pinsAt fp h) : p.1 ∈ fp ∧ h.get? p.1 = some p.2 := by
  obtain ⟨b, hb, e⟩ := List.mem_filterMap.mp hp
  cases q : h.get? b with
  | none => rw [q] at e; cases e
  | some o =>
    rw [q] at e
    have e' : (b, o) = p := Option.some.inj e
    subst e'
    exact ⟨hb, q⟩
theorem Inv.pinned {pins : List (Addr × Obj)} {σ : St} {H : Hp} {s : Shared} {fp : List Addr} (I : Inv X pins σ H s) (hf : ∀ b ∈ fp, FpOk X pins H b) (ho : ∀ b ∈ fp, ∃ o, s.heap.get? b = some o ∧ ∀ v, o.data ≠ .cell v) : Inv X (pins ++ pinsAt fp s.heap) σ H s :=
  I.pins_of fun p hp => (List.mem_append.mp hp).elim (fun z => I.pin p (List.mem_append_right _ z)) fun z => by
    obtain ⟨hb, e⟩ := of_pinsAt z
    obtain ⟨f0, f1, f2, _⟩ := hf p.1 hb
    obtain ⟨o, e', d⟩ := ho p.1 hb
    rw [e] at e'; cases e'
    exact ⟨e, f0, f1, f2, d⟩
theorem Inv.unpinned {pins pl : List (Addr × Obj)} {σ : St} {H : Hp} {s : Shared} (I : Inv X (pins ++ pl) σ H s) : Inv X pins σ H s := I.pins_of fun p hp => I.pin p (List.mem_append_right _ (List.mem_append_left _ hp))
theorem ps_for {iter : Expr} {body : List Stmt} {wi : TI} {g : TG} {tb : TS} {pos : Pos} (hp : PassesOwn (model X.prog X.w) X.A X.env X.xe) (hc : X.calm = true) (hi : PI X tg iter wi) (hg : PG X tg g) (hb : PSs X body tb)
    (hs : ∀ x, foldedSetIterable iter X.env x = pure x := by intro _; rfl) : PS X (.For tg iter body [] pos) (tFor wi g tb) := by
  intro pins s σ H D I h
  refine wpAny_For (thn (hi pins s σ H _ I h) fun v s1 h1 => thn h1 fun itv s2 h2 => ?_) hs
  obtain ⟨it, fp, tn, J, H2, e, I2, T, st2, f2, W, ⟨m0, w0⟩, turn⟩ := h2
  subst e
  -- what stays true of the iterator's objects through the loop
  have stat : ∀ {H' : Hp}, (∀ b ∈ fp, H' b = none) → ∀ b ∈ fp, FpOk X pins H' b := fun hn b hb => ⟨hn b hb, (f2 b hb).2⟩
  refine codeAny_forLoop_any (fun n s' => ∃ i σ' H', Inv X pins σ' H' s' ∧ tn i s'.heap ∧ (∀ b ∈ fp, H' b = none) ∧ W i n σ' H') ?_ m0 ⟨0, σ, H2, I2, st2, fun b hb => (f2 b hb).1, w0⟩
  rintro n s3 ⟨i, σ3, H3, I3, st3, fr3, w3⟩
  rcases turn i n σ3 H3 w3 with ⟨stop, qn⟩ | ⟨go, N, hN, step⟩
  · refine wpAny_passesOwn hp (thn (T.done X rfl rfl rfl hc i pins s3 σ3 H3 X.xe I3 (stat fr3) st3 stop) fun r s4 ⟨hr, I4⟩ => ?_)
    subst hr
    exact wpAny_execs_nil ⟨σ3, H3, I4, qn⟩
  · refine wpAny_passesOwn hp (thn (T.item X rfl rfl rfl hc i pins s3 σ3 H3 X.xe I3 (stat fr3) st3 go) fun r s4 ⟨u, hr, h4⟩ => ?_)
    subst hr
    refine wpAny_passesOwn hp (thn h4 fun _ s5 ⟨x, H5, I5, r5, y5, st5, fr5⟩ => ?_)
    have I5' := I5.pinned (stat fr5) (T.obj _ _ st5)
    refine wpAny_passesOwn hp (thn (hg _ s5 σ3 H5 x u _ I5' r5 (step x H5 y5)) fun _ s6 ⟨σ6, H6, I6, q6⟩ => ?_)
    refine wpAny_passesOwn hp (thn (hb _ s6 σ6 H6 _ I6 q6) fun f s7 q7 => ?_)
    have again : ∀ {σ7 : St} {H7 : Hp}, Inv X (pins ++ pinsAt fp s5.heap) σ7 H7 s7 → N σ7 H7 → ∃ m, m < n ∧ ∃ i σ' H', Inv X pins σ' H' s7 ∧ tn i s7.heap ∧ (∀ b ∈ fp, H' b = none) ∧ W i m σ' H' := fun {σ7 H7} I7 n7 => by
      obtain ⟨m', hm, w7⟩ := hN σ7 H7 n7
      refine ⟨m', hm, i + 1, σ7, H7, I7.unpinned, T.keep _ _ _ st5 fun b hb o e => (I7.pin (b, o) (List.mem_append_right _ (List.mem_append_right _ (mem_pinsAt hb e)))).1, fun b hb => ?_, w7⟩
      obtain ⟨o, e, d⟩ := T.obj _ _ st5 b hb
      exact (I7.pin (b, o) (List.mem_append_right _ (List.mem_append_right _ (mem_pinsAt hb e)))).2.1
    cases f with
    | next => obtain ⟨σ7, H7, I7, n7⟩ := q7; exact again I7 n7
    | cont => obtain ⟨σ7, H7, I7, n7⟩ := q7; exact again I7 n7
    | brk => obtain ⟨σ7, H7, I7, q7⟩ := q7; exact ⟨σ7, H7, I7.unpinned, q7⟩
    | ret v => obtain ⟨x7, σ7, H7, I7, r7, q7⟩ := q7; exact ⟨x7, σ7, H7, I7.unpinned, r7, q7⟩
end
end L2
namespace L2
open PySem PySem.Spec PyProof.Rows
noncomputable abbrev R2 := V → V → Hp → VK → Prop
noncomputable def OpR (X : Cx) (f : Value → Value → Sem Value) (r : R2) : Prop :=
  ∀ (pins : List (Addr × Obj)) (s : Shared) (σ : St) (H : Hp) (x y : V) (v u : Value) (Q : VK), Inv X pins σ H s → RelV x v → RelV y u → r x y H Q →
    wpAny (model X.prog X.w) X.A (f v u) (EP X pins σ Q) X.xe s
noncomputable def UnR (X : Cx) (f : Value → Sem Value) (r : V → Hp → VK → Prop) : Prop :=
  ∀ (pins : List (Addr × Obj)) (s : Shared) (σ : St) (H : Hp) (x : V) (v : Value) (Q : VK), Inv X pins σ H s → RelV x v → r x H Q →
    wpAny (model X.prog X.w) X.A (f v) (EP X pins σ Q) X.xe s
noncomputable def CallR (X : Cx) (f : Value) (r : List V → Hp → VK → Prop) : Prop :=
  ∀ (pins : List (Addr × Obj)) (s : Shared) (σ : St) (H : Hp) (xs : List V) (us : List Value) (Q : VK), Inv X pins σ H s → Vals xs us → r xs H Q →
    wpAny (model X.prog X.w) X.A (call f us) (EP X pins σ Q) X.xe s
noncomputable def tOp (r : R2) (ta tb : TE) : TE := fun σ H Q => ta σ H fun x H1 => tb σ H1 fun y H2 => r x y H2 Q
noncomputable def tUn (r : V → Hp → VK → Prop) (ta : TE) : TE := fun σ H Q => ta σ H fun x H1 => r x H1 Q
noncomputable def rI (C : Int → Int → Prop) (g : Int → Int → V) : R2 := fun x y H Q => ∃ i j, x = .int i ∧ y = .int j ∧ C i j ∧ Q (g i j) H
noncomputable def rI0 (g : Int → Int → V) : R2 := fun x y H Q => ∃ i j, x = .int i ∧ y = .int j ∧ Q (g i j) H
noncomputable def rU (g : Int → V) : V → Hp → VK → Prop := fun x H Q => ∃ i, x = .int i ∧ Q (g i) H

section
variable {X : Cx} {a b c : Expr} {ta tb tc : TE} {pos : Pos}
theorem binT (ha : PE X a ta) (hb : PE X b tb) {pins : List (Addr × Obj)} {s : Shared} {σ : St} {H : Hp} {R : V → V → Hp → Prop} (I : Inv X pins σ H s)
    (h : ta σ H fun x H1 => tb σ H1 fun y H2 => R x y H2) {Q : Value → Shared → Prop} {f : Value → Value → Sem Value}
    (hf : ∀ v u s2 x y H2, Inv X pins σ H2 s2 → RelV x v → RelV y u → R x y H2 → wpAny (model X.prog X.w) X.A (f v u) Q X.xe s2) :
    wpAny (model X.prog X.w) X.A (eval a X.env) (fun v s₁ => wpAny (model X.prog X.w) X.A (eval b X.env) (fun u s₂ => wpAny (model X.prog X.w) X.A (f v u) Q X.xe s₂) X.xe s₁) X.xe s := by
  refine thn (ha pins s σ H _ I h) fun v s1 ⟨x, H1, I1, r1, q1⟩ => ?_
  refine thn (hb pins s1 σ H1 _ I1 q1) fun u s2 ⟨y, H2, I2, r2, q2⟩ => ?_
  exact hf v u s2 x y H2 I2 r1 r2 q2

theorem pe_op {op : Operator} {r : R2} (ho : OpR X (binaryOp op) r) (ha : PE X a ta) (hb : PE X b tb) : PE X (.BinOp a op b pos) (tOp r ta tb) := by
  intro pins s σ H Q I h
  exact wpAny_BinOp (binT ha hb I h fun v u s2 x y H2 I2 rx ry q => ho pins s2 σ H2 x y v u Q I2 rx ry q)
theorem pe_un {op : UnaryOp} {r : V → Hp → VK → Prop} (ho : UnR X (unaryOp op) r) (ha : PE X a ta) : PE X (.UnaryOp op a pos) (tUn r ta) := by
  intro pins s σ H Q I h
  exact UnaryOp_ (thn (ha pins s σ H _ I h) fun v s1 ⟨x, H1, I1, r1, q1⟩ => ho pins s1 σ H1 x v Q I1 r1 q1)
theorem opI {f : Value → Value → Sem Value} {C : Int → Int → Prop} {g : Int → Int → Int}
    (rule : ∀ (i j : Int) (t u : Tok) (s : Shared) (Q : Value → Shared → Prop) (E : Value → Shared → Prop), C i j → Q (.int (g i j) s.toks) { s with toks := s.toks + 1 } → wpAny (model X.prog X.w) X.A (f (.int i t) (.int j u)) Q E s) :
    OpR X f (rI C fun i j => .int (g i j)) := by
  intro pins s σ H x y v u Q I rx ry h
  obtain ⟨i, j, rfl, rfl, hc, q⟩ := h
  obtain ⟨t, rfl⟩ := rx
  obtain ⟨t', rfl⟩ := ry
  exact rule i j t t' s _ _ hc ⟨.int (g i j), H, I.tok _, ⟨_, rfl⟩, q⟩
theorem opI0 {f : Value → Value → Sem Value} {g : Int → Int → Int}
    (rule : ∀ (i j : Int) (t u : Tok) (s : Shared) (Q : Value → Shared → Prop) (E : Value → Shared → Prop), Q (.int (g i j) s.toks) { s with toks := s.toks + 1 } → wpAny (model X.prog X.w) X.A (f (.int i t) (.int j u)) Q E s) :
    OpR X f (rI0 fun i j => .int (g i j)) := by
  intro pins s σ H x y v u Q I rx ry h
  obtain ⟨i, j, rfl, rfl, q⟩ := h
  obtain ⟨t, rfl⟩ := rx
  obtain ⟨t', rfl⟩ := ry
  exact rule i j t t' s _ _ ⟨.int (g i j), H, I.tok _, ⟨_, rfl⟩, q⟩
theorem opB0 {f : Value → Value → Sem Value} {g : Int → Int → Bool}
    (rule : ∀ (i j : Int) (t u : Tok) (s : Shared) (Q : Value → Shared → Prop) (E : Value → Shared → Prop), Q (.bool (g i j)) s → wpAny (model X.prog X.w) X.A (f (.int i t) (.int j u)) Q E s) :
    OpR X f (rI0 fun i j => .bl (g i j)) := by
  intro pins s σ H x y v u Q I rx ry h
  obtain ⟨i, j, rfl, rfl, q⟩ := h
  obtain ⟨t, rfl⟩ := rx
  obtain ⟨t', rfl⟩ := ry
  exact rule i j t t' s _ _ ⟨.bl (g i j), H, I, rfl, q⟩

noncomputable def CPow (i j : Int) : Prop := 0 ≤ j ∧ j ≤ 1000000 ∧ i.natAbs < 2 ^ 64
noncomputable def CMul (i j : Int) : Prop := (-(2 ^ 64) < i ∧ i < 2 ^ 64) ∨ (-(2 ^ 64) < j ∧ j < 2 ^ 64)
theorem CMul.ok {i j : Int} (h : CMul i j) : IntMulOk i j := by
  rcases h with ⟨h1, h2⟩ | ⟨h1, h2⟩
  · exact .of_left (intBits_le_64 h1 h2)
  · exact .of_right (intBits_le_64 h1 h2)
theorem op_add : OpR X (binaryOp .Add) (rI0 fun i j => .int (i + j)) := opI0 fun _ _ _ _ _ _ _ q => add_int q
theorem op_sub : OpR X (binaryOp .Sub) (rI0 fun i j => .int (i - j)) := opI0 fun _ _ _ _ _ _ _ q => sub_int q
theorem op_mul : OpR X (binaryOp .Mult) (rI CMul fun i j => .int (i * j)) := opI fun _ _ _ _ _ _ _ hc q => mul_int q hc.ok
theorem op_mod : OpR X (binaryOp .Mod) (rI (fun _ j => 0 < j) fun i j => .int (i % j)) := opI fun i j _ _ _ _ _ hc q => by
  have h1 : (0 : Int) < j := hc
  exact mod_int' (by omega) (by rw [Int.fmod_eq_emod_of_nonneg i (by omega)]; exact q)
theorem op_pow : OpR X (binaryOp .Pow) (rI CPow fun i j => .int (i ^ j.toNat)) := opI fun _ _ _ _ _ _ _ hc q => pow_int_small hc.1 hc.2.1 hc.2.2 q
theorem unI {f : Value → Sem Value} {g : Int → Int}
    (rule : ∀ (i : Int) (t : Tok) (s : Shared) (Q : Value → Shared → Prop) (E : Value → Shared → Prop), Q (.int (g i) s.toks) { s with toks := s.toks + 1 } → wpAny (model X.prog X.w) X.A (f (.int i t)) Q E s) :
    UnR X f (rU fun i => .int (g i)) := by
  intro pins s σ H x v Q I rx h
  obtain ⟨i, rfl, q⟩ := h
  obtain ⟨t, rfl⟩ := rx
  exact rule i t s _ _ ⟨.int (g i), H, I.tok _, ⟨_, rfl⟩, q⟩
theorem un_neg : UnR X (unaryOp .USub) (rU fun i => .int (-i)) := unI fun _ _ _ _ _ q => neg_int q
end
section
variable {X : Cx} {a b c : Expr} {ta tb tc : TE} {pos : Pos}
theorem fin_bl {pins : List (Addr × Obj)} {σ : St} {H : Hp} {s : Shared} {Q : VK} {k k' : Bool} (I : Inv X pins σ H s) (q : Q (.bl k) H) (e : k = k') : EP X pins σ Q (.bool k') s := by
  subst e
  exact ⟨.bl k, H, I, rfl, q⟩
theorem op_lt : OpR X (compareOp .Lt) (rI0 fun i j => .bl (decide (i < j))) := opB0 fun _ _ _ _ _ _ _ q => lt_int q
theorem op_le : OpR X (compareOp .LtE) (rI0 fun i j => .bl (decide (i ≤ j))) := opB0 fun _ _ _ _ _ _ _ q => le_int q
theorem op_gt : OpR X (compareOp .Gt) (rI0 fun i j => .bl (decide (j < i))) := opB0 fun _ _ _ _ _ _ _ q => gt_int q
theorem op_ge : OpR X (compareOp .GtE) (rI0 fun i j => .bl (decide (j ≤ i))) := opB0 fun _ _ _ _ _ _ _ q => ge_int q
theorem op_isN : OpR X (compareOp .Is) (fun x y H Q => y = .non ∧ Q (.bl (decide (x = .non))) H) := by
  intro pins s σ H x y v u Q I rx ry h
  obtain ⟨rfl, q⟩ := h
  cases ry
  refine is_none_gen (fin_bl I q ?_)
  cases x <;> first
    | (cases rx; rfl)
    | (obtain ⟨t, rfl⟩ := rx; rfl)
theorem op_notN : OpR X (compareOp .IsNot) (fun x y H Q => y = .non ∧ Q (.bl (!decide (x = .non))) H) := by
  intro pins s σ H x y v u Q I rx ry h
  obtain ⟨rfl, q⟩ := h
  cases ry
  refine isnot_none_gen (fin_bl I q ?_)
  cases x <;> first
    | (cases rx; rfl)
    | (obtain ⟨t, rfl⟩ := rx; rfl)

noncomputable def isObj : HO → Bool
  | .lst _ => true
  | .ins _ _ _ => true
  | _ => false
theorem obj_there {pins : List (Addr × Obj)} {s : Shared} {σ : St} {H : Hp} {a : Addr} {o : HO} (I : Inv X pins σ H s) (h : H a = some o) (p : isObj o = true) : ∃ ob, s.heap.get? a = some ob ∧ ob.cls ≠ .type "tuple" := by
  cases o with
  | lst xs =>
    obtain ⟨_, its, n, _, e⟩ : xs.length ≤ sizeLine ∧ ∃ (its : List Value) (n : Nat), Vals xs its ∧ s.heap.get? a = some { cls := .type "list", data := .seq its.toArray n } := I.hok a _ h
    exact ⟨_, e, (by show Value.type "list" ≠ .type "tuple"; decide +kernel)⟩
  | ins C dx fs =>
    have x := I.hok a _ h
    obtain ⟨_, _, _, e, _⟩ := x
    exact ⟨_, e, (by show Value.ref C ≠ .type "tuple"; exact fun z => by cases z)⟩
  | _ => exact absurd (show false = true from p) Bool.false_ne_true
theorem OpR.or {f : Value → Value → Sem Value} {r r' : R2} (h : OpR X f r) (h' : OpR X f r') : OpR X f (fun x y H Q => r x y H Q ∨ r' x y H Q) := by
  intro pins s σ H x y v u Q I rx ry q
  rcases q with q | q
  · exact h pins s σ H x y v u Q I rx ry q
  · exact h' pins s σ H x y v u Q I rx ry q

theorem nomark (b : Expr) {op : CmpOp} (h : op ≠ .In := by decide) (h2 : op ≠ .NotIn := by decide) : behindInMarks op b = false := by
  have e1 : (op == CmpOp.In) = false := by cases op <;> first | rfl | exact absurd rfl h
  have e2 : (op == CmpOp.NotIn) = false := by cases op <;> first | rfl | exact absurd rfl h2
  cases b <;> simp [behindInMarks, e1, e2]
theorem pe_cmpR {op : CmpOp} {r : R2} (ho : OpR X (compareOp op) r) (ha : PE X a ta) (hb : PE X b tb) (hm : behindInMarks op b = false) : PE X (.Compare a [op] [b] pos) (tOp r ta tb) := by
  intro pins s σ H Q I h
  exact wpAny_Compare1 (binT ha hb I h fun v u s2 x y H2 I2 rx ry q => ho pins s2 σ H2 x y v u Q I2 rx ry q) hm
noncomputable def tTest (t : TE) : TT := fun σ H Q => t σ H fun x H' => ∃ k, x = .bl k ∧ Q k H'
theorem pt_cmpR {op : CmpOp} {r : R2} (ho : OpR X (compareOp op) r) (ha : PE X a ta) (hb : PE X b tb) (hm : behindInMarks op b = false) : PT X (.Compare a [op] [b] pos) (tTest (tOp r ta tb)) := by
  intro pins s σ H Q I h
  refine wpAny_isTrue_Compare1 (thn (ha pins s σ H _ I h) fun v s1 ⟨x, H1, I1, r1, q1⟩ => thn (hb pins s1 σ H1 _ I1 q1) fun u s2 ⟨y, H2, I2, r2, q2⟩ =>
    thn (ho pins s2 σ H2 x y v u _ I2 r1 r2 q2) fun c s3 ⟨z, H3, I3, r3, k, e, q3⟩ => ?_) hm
  subst e
  cases r3
  exact wpAny_truthy_bool ⟨H3, I3, q3⟩
noncomputable def tChain (r r' : R2) (ta tb tc : TE) : TE := fun σ H Q => ta σ H fun x H1 => tb σ H1 fun y H2 => r x y H2 fun z H3 => ∃ k, z = .bl k ∧
  (if k = true then tc σ H3 fun w' H4 => r' y w' H4 Q else Q (.bl false) H3)
theorem pe_chain {op op' : CmpOp} {r r' : R2} (ho : OpR X (compareOp op) r) (ho' : OpR X (compareOp op') r') (ha : PE X a ta) (hb : PE X b tb) (hc : PE X c tc)
    (hm : lastMarks [op, op'] [b, c] = false := by with_unfolding_all rfl) : PE X (.Compare a [op, op'] [b, c] pos) (tChain r r' ta tb tc) := by
  intro pins s σ H Q I h
  refine Compare_chain (thn (ha pins s σ H _ I h) fun v s1 ⟨x, H1, I1, r1, q1⟩ => chain_link (thn (hb pins s1 σ H1 _ I1 q1) fun u s2 ⟨y, H2, I2, r2, q2⟩ =>
    thn (ho pins s2 σ H2 x y v u _ I2 r1 r2 q2) fun d s3 ⟨z, H3, I3, r3, k, e, q3⟩ => ?_)) hm
  subst e
  cases r3
  refine wpAny_truthy_bool ?_
  cases k with
  | false => exact ite_ff ⟨.bl false, H3, I3, rfl, q3⟩
  | true => exact ite_tt (chain_last (thn (hc pins s3 σ H3 _ I3 q3) fun w' s4 ⟨z', H4, I4, r4, q4⟩ => ho' pins s4 σ H4 y z' u w' Q I4 r2 r4 q4))
theorem pt_chain {op op' : CmpOp} {r r' : R2} (ho : OpR X (compareOp op) r) (ho' : OpR X (compareOp op') r') (ha : PE X a ta) (hb : PE X b tb) (hc : PE X c tc)
    (hm : lastMarks [op, op'] [b, c] = false := by with_unfolding_all rfl) : PT X (.Compare a [op, op'] [b, c] pos) (tTest (tChain r r' ta tb tc)) := by
  intro pins s σ H Q I h
  refine isTrue_chain (thn (ha pins s σ H _ I h) fun v s1 ⟨x, H1, I1, r1, q1⟩ => test_link (thn (hb pins s1 σ H1 _ I1 q1) fun u s2 ⟨y, H2, I2, r2, q2⟩ =>
    thn (ho pins s2 σ H2 x y v u _ I2 r1 r2 q2) fun d s3 ⟨z, H3, I3, r3, k, e, q3⟩ => ?_)) hm
  subst e
  cases r3
  refine wpAny_truthy_bool ?_
  cases k with
  | false =>
    obtain ⟨k', e', q'⟩ := q3
    cases e'
    exact ite_ff ⟨H3, I3, q'⟩
  | true =>
    refine ite_tt (test_last (thn (hc pins s3 σ H3 _ I3 q3) fun w' s4 ⟨z', H4, I4, r4, q4⟩ => thn (ho' pins s4 σ H4 y z' u w' _ I4 r2 r4 q4) fun d' s5 ⟨z2, H5, I5, r5, k2, e2, q5⟩ => ?_))
    subst e2
    cases r5
    exact wpAny_truthy_bool ⟨H5, I5, q5⟩

theorem line63 : (sizeLine : Nat) < 2 ^ 63 := by rw [sizeLine_eq]; decide
theorem op_add_str : OpR X (binaryOp .Add) (fun x y H Q => ∃ i j, x = .str i ∧ y = .str j ∧ i.length + j.length ≤ sizeLine ∧ Q (.str (i ++ j)) H) := by
  intro pins s σ H x y v u Q I rx ry h
  obtain ⟨i, j, rfl, rfl, hz, q⟩ := h
  obtain ⟨t, rfl⟩ := rx
  obtain ⟨t', rfl⟩ := ry
  exact add_str (fun t' tk => ⟨.str (i ++ j), H, I.tok _, ⟨_, rfl⟩, q⟩) hz
theorem vals1 {x : V} {us : List Value} (r : Vals [x] us) : ∃ u, us = [u] ∧ RelV x u := by
  cases r with
  | cons r1 r2 => cases r2; exact ⟨_, rfl, r1⟩
theorem vals2 {x y : V} {us : List Value} (r : Vals [x, y] us) : ∃ u w', us = [u, w'] ∧ RelV x u ∧ RelV y w' := by
  cases r with
  | cons r1 r2 =>
    cases r2 with
    | cons r3 r4 => cases r4; exact ⟨_, _, rfl, r1, r3⟩
theorem call_abs : CallR X (.builtin "abs") (fun xs H Q => ∃ i, xs = [.int i] ∧ Q (.int (if i < 0 then -i else i)) H) := by
  intro pins s σ H xs us Q I r h
  obtain ⟨i, rfl, q⟩ := h
  obtain ⟨u, rfl, t, rfl⟩ := vals1 r
  exact call_abs_int fun u tk => ⟨.int (if i < 0 then -i else i), H, I.tok _, ⟨_, rfl⟩, q⟩
theorem call_max2 (hc : X.calm = true) : CallR X (.builtin "max") (fun xs H Q => ∃ i j, xs = [.int i, .int j] ∧ Q (.int (if j > i then j else i)) H) := by
  intro pins s σ H xs us Q I r h
  obtain ⟨i, j, rfl, q⟩ := h
  obtain ⟨u, w', rfl, ⟨t, rfl⟩, ⟨t', rfl⟩⟩ := vals2 r
  refine max_two_ints (I.ok.hd hc) fun h' tk k => ⟨_, H, I.kept k, ?_, q⟩
  by_cases hj : j > i
  · rw [if_pos hj, if_pos hj]; exact ⟨_, rfl⟩
  · rw [if_neg hj, if_neg hj]; exact ⟨_, rfl⟩
theorem call_min2 (hc : X.calm = true) : CallR X (.builtin "min") (fun xs H Q => ∃ i j, xs = [.int i, .int j] ∧ Q (.int (if j < i then j else i)) H) := by
  intro pins s σ H xs us Q I r h
  obtain ⟨i, j, rfl, q⟩ := h
  obtain ⟨u, w', rfl, ⟨t, rfl⟩, ⟨t', rfl⟩⟩ := vals2 r
  refine min_two_ints (I.ok.hd hc) fun h' tk k => ⟨_, H, I.kept k, ?_, q⟩
  by_cases hj : j < i
  · rw [if_pos hj, if_pos hj]; exact ⟨_, rfl⟩
  · rw [if_neg hj, if_neg hj]; exact ⟨_, rfl⟩
theorem call_int1 : CallR X (.type "int") (fun xs H Q => (∃ i, xs = [.int i] ∧ Q (.int i) H) ∨ ∃ k, xs = [.bl k] ∧ Q (.int (if k then 1 else 0)) H) := by
  intro pins s σ H xs us Q I r h
  rcases h with ⟨i, rfl, q⟩ | ⟨k, rfl, q⟩
  · obtain ⟨u, rfl, t, rfl⟩ := vals1 r
    exact call_int_int ⟨.int i, H, I, ⟨_, rfl⟩, q⟩
  · obtain ⟨u, rfl, r1⟩ := vals1 r
    cases r1
    exact call_int_bool ⟨.int (if k then 1 else 0), H, I.tok _, ⟨_, rfl⟩, q⟩
end
end L2
namespace L2
open PySem PySem.Spec PyProof.Rows
section
variable {prog : Program} {w : World} {A : Around} {E : Value → Shared → Prop} {s : Shared} {K : PySem.W.Frag} {x dx C f : Addr} {mA : Str → Option Value} {name : Str} {v : Value}
end
theorem RelO.some_of {v : V} {o : Option Value} (r : RelO (some v) o) : ∃ u, o = some u ∧ RelV v u := by
  cases o with
  | none => exact (show False from r).elim
  | some u => exact ⟨u, rfl, r⟩
section
variable {P : Program} {w : World} {H H' : Hp} {h h' : Heap} {a C dx : Addr} {fs fs' : List (Str × V)}
end
section
variable {X : Cx} {pins : List (Addr × Obj)} {σ : St} {H : Hp} {s : Shared} {a C dx : Addr} {fs : List (Str × V)} {f : Str} {v : V} {A : Around} {E : Value → Shared → Prop}
end
section
variable {X : Cx} {o e value : Expr} {f : Str} {pos pos' tpos : Pos} {ta tv : TE}
end
section
variable {X : Cx} {pins : List (Addr × Obj)} {σ : St} {H : Hp} {s : Shared} {A : Around} {E : Value → Shared → Prop} {Q : Value → Shared → Prop} {c : Value} {b : Bool}
end
end L2
namespace L2
open PySem PySem.Spec PyProof.Rows
structure Room (k : Nat) (A : Around) : Prop where
  hd : A.handled = none
  dp : A.depth + 3 * k + 5 < recursionLimit
  un : A.units + 16 * k + 200 < cLine
  gd : A.guards = some []
theorem Room.mono {j k : Nat} {A : Around} (r : Room k A) (h : j ≤ k) : Room j A := ⟨r.hd, by have := r.dp; omega, by have := r.un; omega, r.gd⟩
theorem Room.deeper {k : Nat} {A : Around} (r : Room (k + 1) A) (env : Env) : Room k (A.deeper env) :=
  ⟨r.hd, by have := r.dp; show A.depth + 1 + 3 * k + 5 < _; omega, by have := r.un; show A.units + 3 + 16 * k + 200 < _; omega, r.gd⟩
theorem Room.depth {k : Nat} {A : Around} (r : Room k A) : A.depth < recursionLimit := by have := r.dp; omega
theorem Room.units {k : Nat} {A : Around} (r : Room k A) : A.units + 64 < cLine := by have := r.un; omega
noncomputable def tNil : TA := fun _ H Q => Q [] H
noncomputable def tCons (ta : TE) (tr : TA) : TA := fun σ H Q => ta σ H fun x H1 => tr σ H1 fun xs H2 => Q (x :: xs) H2
section
variable {X : Cx} {e : Expr} {es : List Expr} {te : TE} {t : TA} {pos : Pos}
theorem pa_nil : PA X [] tNil := fun _ _ _ _ H Q I h => Calls.spliced_nil ⟨[], H, I, .nil, h⟩
theorem pa_cons (ha : PE X e te) (hr : PA X es t) (hs : starEach (e :: es) X.env = (false, eval e X.env) :: starEach es X.env := by rfl) : PA X (e :: es) (tCons te t) := by
  intro pos pins s σ H Q I h
  rw [hs]
  show wpAny _ _ (spliced ((false, eval e X.env) :: backTo pos (starEach es X.env))) _ _ s
  refine Calls.spliced_cons (thn (ha pins s σ H _ I h) fun u s1 ⟨x, H1, I1, r1, q1⟩ => ?_)
  exact thn (hr pos pins s1 σ H1 _ I1 q1) fun us s2 ⟨xs, H2, I2, r2, q2⟩ => ⟨x :: xs, H2, I2, .cons r1 r2, q2⟩

noncomputable def tTup (t : TA) : TE := fun σ H Q => t σ H fun xs H1 => xs.length ≤ sizeLine ∧ ∀ p, H1 p = none → Q (.ref p) (upd H1 p (.tup xs))
noncomputable def tLst (t : TA) : TE := fun σ H Q => t σ H fun xs H1 => xs.length ≤ sizeLine ∧ ∀ p, H1 p = none → Q (.ref p) (upd H1 p (.lst xs))
theorem pe_tup {x1} (h : PA X es t) : PE X (.Tuple es x1 pos) (tTup t) := by
  intro pins s σ H Q I hq
  refine wpAny_Tuple_spliced (thn (h pos pins s σ H _ I hq) fun us s1 ⟨xs, H1, I1, r, z, q⟩ => ⟨by rw [← r.length]; exact z, ?_⟩)
  have hf : H1 s1.heap.objs.size = none := I1.hok.fresh (Nat.le_refl _)
  refine ⟨.ref s1.heap.objs.size, upd H1 s1.heap.objs.size (.tup xs), I1.laid (t' := s1.toks) (fun b u e => Heap.get?_push_of_some _ e) (Nat.le_refl _) ?_, rfl, q _ hf⟩
  exact ⟨z, us, r, ⟨_, Heap.get?_push_size _ rfl, rfl, _, rfl⟩⟩
theorem pe_lst (h : PA X es t) : PE X (.List es pos) (tLst t) := by
  intro pins s σ H Q I hq
  refine wpAny_List_spliced (thn (h pos pins s σ H _ I hq) fun us s1 ⟨xs, H1, I1, r, z, q⟩ => ⟨by rw [← r.length]; exact z, ?_⟩)
  have hf : H1 s1.heap.objs.size = none := I1.hok.fresh (Nat.le_refl _)
  refine ⟨.ref s1.heap.objs.size, upd H1 s1.heap.objs.size (.lst xs), I1.laid (t' := s1.toks) (fun b u e => Heap.get?_push_of_some _ e) (Nat.le_refl _) ?_, rfl, q _ hf⟩
  exact ⟨z, us, 0, r, Heap.get?_push_size _ rfl⟩
end
noncomputable abbrev Sp := List V → Hp → VK → XK → Prop
noncomputable abbrev CXT := List Env → Hp → Shared → XK → Value → Shared → Prop

structure Env0 (P : Program) (w : World) (K : PySem.W.Frag) (mg : Str → Option Value) (base : Heap) (A : Around) (outer : List Env) (s : Shared) (H : Hp) : Prop where
  frames : A.frames = some outer
  mod : Mod K mg base
  bs : ∀ b o, base.get? b = some o → s.heap.get? b = some o ∧ H b = none
  bsz : base.objs.size ≤ s.heap.objs.size
  funs : s.heap.FunFrames base outer
  frf : ∀ b ∈ frs outer, H b = none
  hok : HOk P w H s.heap
  bare : AllBare s.gens
noncomputable def CE (outer : List Env) (P : Program) (w : World) (H : Hp) (s : Shared) (Q : VK) (u : Value) (s' : Shared) : Prop :=
  ∃ v H', s'.os = s.os ∧ AllBare s'.gens ∧ Un (frs outer) [] H H' s.heap s'.heap ∧ HOk P w H' s'.heap ∧ RelV v u ∧ Q v H'
noncomputable def CR (CX : CXT) (outer : List Env) (P : Program) (w : World) (H : Hp) (s : Shared) (Q : VK) (E : XK) (r : Result) (s' : Shared) : Prop :=
  match r with
  | .ok (.ret u) => CE outer P w H s Q u s'
  | .ok _ => False
  | .error e => CX outer H s E e s'
structure FnOk (P : Program) (w : World) (K : PySem.W.Frag) (mg : Str → Option Value) (base : Heap) (CX : CXT) (k : Nat) (f : Addr) (fd : FuncData) (ps : List Str) (sp : Sp) : Prop where
  len : ∀ vs H Q E, sp vs H Q E → vs.length = ps.length
  run : ∀ (A : Around) (outer : List Env) (s : Shared) (H : Hp) (args : Args) (us : List Value) (vs : List V) (Q : VK) (E : XK), Room k A → Env0 P w K mg base A outer s H → BindsTo s fd args (ps.zip us) → Vals vs us → sp vs H Q E →
    codeAny (model P w) A (.call (.ref f) args) (CR CX outer P w H s Q E) s
section
variable {X : Cx} {pins : List (Addr × Obj)} {σ : St} {H : Hp} {s s' : Shared}
theorem Inv.env0 (I : Inv X pins σ H s) : Env0 X.prog X.w X.K X.mg X.base X.A X.stack s H :=
  ⟨I.ok.frames, I.ok.mod, I.bs, Nat.le_trans I.ok.bsz I.sz, I.stack, I.stkFree, I.hok, I.bare⟩
theorem Inv.after {Q : VK} {u : Value} (I : Inv X pins σ H s) (h : CE X.stack X.prog X.w H s Q u s') : EP X pins σ Q u s' := by
  obtain ⟨v, H', os, bare, un, hok, r, q⟩ := h
  obtain ⟨hh, g, d, t, os'⟩ := s'
  obtain rfl : os' = s.os := os
  exact ⟨v, H', I.call (h' := hh) (g' := g) (d' := d) (t' := t) (ch := []) un hok bare (fun b z => absurd z (by simp)), r, q⟩
end
noncomputable def tCall (sp : Sp) (dvs : List V) (E : XK) (t : TA) : TE := fun σ H Q => t σ H fun vs H1 => sp (vs ++ dvs) H1 Q E
noncomputable def Binds (K : PySem.W.Frag) (fd : FuncData) (ps : List Str) (ds : List Value) : Prop :=
  ∀ (s : Shared) (us : List Value), K.In s.heap → (us ++ ds).length = ps.length → BindsTo s fd ⟨us, []⟩ (ps.zip (us ++ ds))
theorem Binds.all {K : PySem.W.Frag} {fd : FuncData} {ps : List Str} (h : ∀ us : List Value, us.length = ps.length → bindArgs fd ⟨us, []⟩ = pure (ps.zip us)) : Binds K fd ps [] := fun s us _ hl => by
  rw [List.append_nil] at hl ⊢
  exact .of_eq (h us hl)

noncomputable def Passes (CX : CXT) (X : Cx) (E : XK) : Prop := ∀ (pins : List (Addr × Obj)) (σ : St) (H : Hp) (s : Shared) (e : Value) (s' : Shared), Inv X pins σ H s → CX X.stack H s E e s' → X.xe e s'

section
variable {X : Cx} {CX : CXT} {k : Nat} {f C : Addr} {fd : FuncData} {ps : List Str} {sp : Sp} {dvs : List V} {ds : List Value} {E : XK} {x m : Str} {p pos apos : Pos} {e o : Expr} {es : List Expr} {ta : TE} {t : TA}
theorem run_fn {pins : List (Addr × Obj)} {σ : St} {H : Hp} {s : Shared} {Q : VK} {us : List Value} {vs : List V} (F : FnOk X.prog X.w X.K X.mg X.base CX k f fd ps sp) (hr : Room k X.A) (hb : Binds X.K fd ps ds) (hd : Vals dvs ds) (hx : Passes CX X E)
    (I : Inv X pins σ H s) (r : Vals vs us) (h : sp (vs ++ dvs) H Q E) : wpAny (model X.prog X.w) X.A (call (.ref f) us) (EP X pins σ Q) X.xe s := by
  have r2 : Vals (vs ++ dvs) (us ++ ds) := r.append hd
  have hl : (us ++ ds).length = ps.length := by rw [← r2.length]; exact F.len _ _ _ _ h
  refine wpAny_call (codeAny_mono (F.run X.A X.stack s H ⟨us, []⟩ (us ++ ds) (vs ++ dvs) Q E hr I.env0 (hb s us I.kIn hl) r2 h) fun r s' hq => ?_)
  cases r with
  | error e => exact hx pins σ H s e s' I hq
  | ok fl =>
    cases fl with
    | ret u => exact I.after hq
    | next => exact False.elim hq
    | brk => exact False.elim hq
    | cont => exact False.elim hq

theorem pe_call (F : FnOk X.prog X.w X.K X.mg X.base CX k f fd ps sp) (hr : Room k X.A) (hg : Gl X x) (hm : X.mg x = some (.ref f)) (hk : PySem.W.keepIn X.K (.ref f) = true) (hb : Binds X.K fd ps ds) (hd : Vals dvs ds) (hx : Passes CX X E)
    (ha : PA X (e :: es) t) (hdb : (x == ("__debug__" : Str)) = false := by decide) (he : starEach (e :: es) X.env = (false, eval e X.env) :: starEach es X.env := by rfl) (hpl : (backTo pos (starEach es X.env)).any (·.1) = false := by rfl) :
    PE X (.Call (.Name x p) (e :: es) [] pos) (tCall sp dvs E t) := by
  intro pins s σ H Q I h
  refine wpAny_Call_Name_kw (ld_glob I hg hm ?_ hdb)
  refine PySem.W.callWith_K (h₀ := X.base) I.ok.mod.kin hk (thn (ha pos pins s σ H _ I h) fun us s1 ⟨vs, H1, I1, r, q⟩ => ⟨I1.kIn, ?_⟩) he hpl
  exact run_fn F hr hb hd hx I1 r q
end
section
variable {X : Cx} {CX : CXT} {k : Nat} {f C : Addr} {fd : FuncData} {ps ks : List Str} {sp : Sp} {E : XK} {x m : Str} {p pos apos kpos : Pos} {e o : Expr} {es : List Expr} {kws : List Keyword} {te ta : TE} {t tk : TA} {nm : Option Str}
variable {g : List Value → List Value → List Value} {gV : List V → List V → List V}
end
structure FnScope (N P : List Str) (sc : Scope) : Prop where
  kind : sc.kind = .function
  co : sc.isCoroutine = false
  gen : sc.isGenerator = false
  nd : N.Nodup
  pre : N.take P.length = P
  par : ∀ x ∈ P, sc.names.lookup x = some .local ∨ sc.names.lookup x = some .cell
  nofree : ∀ y ∈ sc.names, y.2 ≠ .free

theorem bindL_out {kindOf : Str → Option NameKind} {x : Str} : ∀ {binds : List (Str × Value)} {m : Str → Option Value}, (∀ v, (x, v) ∉ binds) → bindL kindOf binds m x = m x
  | [], _, _ => rfl
  | (n, v) :: r, m, h => by
    unfold bindL
    rw [bindL_out fun w hw => h w (List.mem_cons_of_mem _ hw)]
    split
    · have : x ≠ n := by rintro rfl; exact h v List.mem_cons_self
      simp [this]
    · rfl
theorem bindC_out {kindOf : Str → Option NameKind} {x : Str} : ∀ {binds : List (Str × Value)} {m : Str → Option Value}, (∀ v, (x, v) ∉ binds) → bindC kindOf binds m x = m x
  | [], _, _ => rfl
  | (n, v) :: r, m, h => by
    unfold bindC
    rw [bindC_out fun w hw => h w (List.mem_cons_of_mem _ hw)]
    split
    · rfl
    · have : x ≠ n := by rintro rfl; exact h v List.mem_cons_self
      simp [this]
theorem bindL_get {kindOf : Str → Option NameKind} {x : Str} {v : Value} : ∀ {P : List Str} {vs : List Value} {i : Nat} {m : Str → Option Value}, P.Nodup → P[i]? = some x → vs[i]? = some v → kindOf x = some .local →
    bindL kindOf (P.zip vs) m x = some v
  | [], _, _, _, _, h, _, _ => by simp at h
  | _ :: _, [], _, _, _, _, h, _ => by simp at h
  | p :: P, w :: vs, 0, m, nd, h1, h2, hk => by
    simp at h1 h2; subst h1; subst h2
    show bindL kindOf ((p, w) :: P.zip vs) m p = _
    unfold bindL
    rw [bindL_out fun v hv => (List.nodup_cons.mp nd).1 (List.of_mem_zip hv).1, if_pos hk]
    simp
  | p :: P, w :: vs, i + 1, m, nd, h1, h2, hk => by
    show bindL kindOf ((p, w) :: P.zip vs) m x = _
    unfold bindL
    exact bindL_get (i := i) (List.nodup_cons.mp nd).2 (by simpa using h1) (by simpa using h2) hk
theorem bindC_get {kindOf : Str → Option NameKind} {x : Str} {v : Value} : ∀ {P : List Str} {vs : List Value} {i : Nat} {m : Str → Option Value}, P.Nodup → P[i]? = some x → vs[i]? = some v → kindOf x ≠ some .local →
    bindC kindOf (P.zip vs) m x = some v
  | [], _, _, _, _, h, _, _ => by simp at h
  | _ :: _, [], _, _, _, _, h, _ => by simp at h
  | p :: P, w :: vs, 0, m, nd, h1, h2, hk => by
    simp at h1 h2; subst h1; subst h2
    show bindC kindOf ((p, w) :: P.zip vs) m p = _
    unfold bindC
    rw [bindC_out fun v hv => (List.nodup_cons.mp nd).1 (List.of_mem_zip hv).1, if_neg hk]
    simp
  | p :: P, w :: vs, i + 1, m, nd, h1, h2, hk => by
    show bindC kindOf ((p, w) :: P.zip vs) m x = _
    unfold bindC
    exact bindC_get (i := i) (List.nodup_cons.mp nd).2 (by simpa using h1) (by simpa using h2) hk

noncomputable def start (N : List Str) (vs : List V) : St := vs.map some ++ List.replicate (N.length - vs.length) none

noncomputable def cxOf (CX : CXT) (P : Program) (w : World) (K : PySem.W.Frag) (mg : Str → Option Value) (base : Heap) (N : List Str) (qual : Str) (scope : Scope) (f : Addr) (cd : Value) (A : Around) (outer : List Env) (s : Shared) (H : Hp) (E : XK) : Cx where
  prog := P
  w := w
  K := K
  mg := mg
  base := base
  A := A.deeper (envOfC qual scope s.heap.objs.size f cd)
  N := N
  s₀ := s
  H₀ := H
  env := envOfC qual scope s.heap.objs.size f cd
  outer := outer
  stack := envOfC qual scope s.heap.objs.size f cd :: outer
  ex := []
  calm := true
  fn := fun _ => true
  pn := []
  xe := fun e s' => wpAny (model P w) (A.deeper (envOfC qual scope s.heap.objs.size f cd)) (leaving (envOfC qual scope s.heap.objs.size f cd) e) (fun _ s'' => CX outer H s E e s'') (fun e' s'' => CX outer H s E e' s'') s'

theorem cell_has {sc : Scope} {n : Nat} {x : Str} (h : sc.names.lookup x = some .cell) : ∃ c, (cellsFrom n sc.names []).lookup x = some c := by
  have q := PySem.W.cellsFrom_some sc.names n [] (.inl h)
  exact Option.isSome_iff_exists.mp q

theorem inv_start {CX : CXT} {P : Program} {w : World} {K : PySem.W.Frag} {mg : Str → Option Value} {base : Heap} {N ps : List Str} {qual : Str} {scope : Scope} {f : Addr} {cd : Value} {A : Around} {outer : List Env} {s s1 : Shared} {H : Hp} {E : XK} {us : List Value} {vs : List V}
    (S : FnScope N ps scope) (hd : A.handled = none) (e0 : Env0 P w K mg base A outer s H) (hl : vs.length = ps.length) (r : Vals vs us)
    (x : InCallC s s.heap.objs.size (bindL (envOfC qual scope s.heap.objs.size f cd).kindOf (ps.zip us) fun _ => none) (cellsFrom (s.heap.objs.size + 1) scope.names []) (bindC (envOfC qual scope s.heap.objs.size f cd).kindOf (ps.zip us) fun _ => none) s1) :
    Inv (cxOf CX P w K mg base N qual scope f cd A outer s H E) [] (start N vs) H s1 := by
  have hpl : ps.length ≤ N.length := by have := congrArg List.length S.pre; rw [List.length_take] at this; omega
  obtain ⟨h1, tk, rfl, hk⟩ := x.done
  have noA : ∀ b : Addr, b ∉ (cxOf CX P w K mg base N qual scope f cd A outer s H E).ex := fun b z => absurd (show b ∈ ([] : List Addr) from z) (by simp)
  refine ⟨⟨e0.mod, S.kind, rfl, rfl, Nat.le_refl _, fun y z c h1 h2 => ?_, fun y hy => ?_, fun y c _ h => ?_, fun _ => hd, Around.frames_deeper e0.frames, .inr ⟨rfl, rfl⟩, fun b z => absurd z (noA b), e0.bs, e0.bsz, fun b _ _ => noA b, fun b z => absurd z (noA b), e0.funs, e0.frf⟩,
    rfl, e0.bare, Un.kept hk, ⟨_, x.toInCall.ns, fun i y v h1 h2 h3 => ?_⟩, fun y c h => ⟨_, x.cell y c h⟩, e0.hok.fresh (Nat.le_refl _), fun y c h => ?_, fun p hp => absurd (show p ∈ ([] : List (Addr × Obj)) from hp) (by simp), e0.hok.kept hk, ?_⟩
  · exact name_of_addr x.apart (PySem.mem_of_lookup h1) (PySem.mem_of_lookup h2)
  · have hy : scope.names.lookup y = some .cell ∨ scope.names.lookup y = some .free := hy
    rcases hy with hy | hy
    · exact cell_has hy
    · exact absurd rfl (S.nofree _ (PySem.mem_of_lookup hy))
  · exact Nat.le_of_lt (x.above y c (PySem.mem_of_lookup h))
  · have hi : i < vs.length := by
      unfold start at h2
      by_cases hi : i < vs.length
      · exact hi
      · rw [List.getElem?_append_right (by simpa using hi)] at h2
        rw [List.getElem?_replicate] at h2
        split at h2 <;> cases h2
    have ha : vs[i]? = some v := by
      unfold start at h2
      rw [List.getElem?_append_left (by simpa using hi), List.getElem?_map] at h2
      cases e : vs[i]? with
      | none => rw [e] at h2; cases h2
      | some a => rw [e] at h2; cases h2; rfl
    obtain ⟨u, hu, rv⟩ := r.get ha
    have hp : ps[i]? = some y := by
      rw [← S.pre, List.getElem?_take_of_lt (by omega)]; exact h1
    have ndP : ps.Nodup := by rw [← S.pre]; exact S.nd.sublist (List.take_sublist _ _)
    refine ⟨u, rv, ?_⟩
    rcases S.par y (List.mem_of_getElem? hp) with k | k
    · exact .inl ⟨k, bindL_get ndP hp hu k⟩
    · obtain ⟨c, e⟩ := cell_has (n := s.heap.objs.size + 1) k
      refine .inr ⟨.inl k, c, e, ?_⟩
      have q := x.cell y c e
      rw [bindC_get ndP hp hu (by show scope.names.lookup y ≠ _; rw [k]; decide)] at q
      exact q
  · exact e0.hok.fresh (Nat.le_of_lt (x.above y c (PySem.mem_of_lookup h)))
  · unfold start
    show _ = N.length
    rw [List.length_append, List.length_map, List.length_replicate]
    omega

theorem fn_of {CX : CXT} {P : Program} {w : World} {K : PySem.W.Frag} {mg : Str → Option Value} {base : Heap} {k : Nat} {f : Addr} {name qual : Str} {params : Arguments} {body : List Stmt} {scope : Scope} {dV kV doc pm cdv ct oc : Value} {an od : Option Addr}
    {osl : Array (Option Value)} {N ps : List Str} {sp : Sp} (lk : K.lookup f = some ⟨oc, od, .func (PySem.W.fnOf name qual params body scope dV kV doc pm an cdv ct), osl⟩) (hcd : PySem.W.codeIn K cdv qual = true) (S : FnScope N ps scope)
    (len : ∀ vs H Q E, sp vs H Q E → vs.length = ps.length)
    (hbody : ∀ (A : Around) (outer : List Env) (s : Shared) (H : Hp) (vs : List V) (Q : VK) (E : XK), Room k (A.deeper (envOfC qual scope s.heap.objs.size f cdv)) → sp vs H Q E →
      ∃ t, PSs (cxOf CX P w K mg base N qual scope f cdv A outer s H E) body t ∧ t { nx := fun _ H' => Q .non H', rt := Q } (start N vs) H) :
    FnOk P w K mg base CX (k + 1) f (PySem.W.fnOf name qual params body scope dV kV doc pm an cdv ct) ps sp := by
  refine ⟨len, fun A outer s H args us vs Q E hr e0 hb r hsp => ?_⟩
  have hl := len _ _ _ _ hsp
  have KX : K.In s.heap := e0.mod.kin.keeps fun b o e => (e0.bs b o e).1
  have lim : s.heap.NoLimit := e0.mod.nolimit.keeps fun b o e => (e0.bs b o e).1
  have hkind : ∀ y ∈ ps.zip us, scope.names.lookup y.1 = some .local ∨ (scope.names.lookup y.1 = some .cell ∧ ((cellsFrom (s.heap.objs.size + 1) scope.names []).lookup y.1).isSome = true) := fun ⟨n, v⟩ hy => by
    rcases S.par n (List.of_mem_zip hy).1 with q | q
    · exact .inl q
    · exact .inr ⟨q, PySem.W.cellsFrom_some _ _ _ (.inl q)⟩
  refine codeAny_call_function hr.depth (KX _ _ lk) rfl S.co S.gen rfl (PySem.W.codeRec_of KX hcd) (hb _ _ _ _ ?_)
  refine wpAny_newFunctionEnv_cells S.kind hkind fun env he s1 x => ?_
  subst he
  refine ⟨lim.keeps x.toInCall.keep, codeAny_func ?_⟩
  obtain ⟨t, ht, hq⟩ := hbody A outer s H vs Q E (hr.deeper _) hsp
  have I : Inv (cxOf CX P w K mg base N qual scope f cdv A outer s H E) [] (start N vs) H s1 := inv_start S hr.hd e0 hl r x
  refine wpAny_mono (ht [] s1 (start N vs) H _ I hq) (fun fl s' hs => ?_) fun e s' hs => hs
  have fin : ∀ {σ' : St} {H' : Hp} {v : V} {u : Value}, Inv (cxOf CX P w K mg base N qual scope f cdv A outer s H E) [] σ' H' s' → RelV v u → Q v H' → CE outer P w H s Q u s' :=
    fun {σ' H' v u} J rv q => ⟨v, H', J.os, J.bare, J.base, J.hok, rv, q⟩
  cases fl with
  | ret u =>
    obtain ⟨v, σ', H', J, rv, q⟩ := hs
    exact fin J rv q
  | next =>
    obtain ⟨σ', H', J, q⟩ := hs
    exact fin (v := V.non) (u := Value.none) J rfl q
  | brk =>
    obtain ⟨_, _, _, q⟩ := hs
    exact False.elim q
  | cont =>
    obtain ⟨_, _, _, q⟩ := hs
    exact False.elim q
end L2
namespace L2
open PySem PySem.Spec PyProof.Rows
section
variable {X : Cx} {x : Str} {p pos : Pos} {e : Expr} {es : List Expr} {t : TA} {id T : String} {r : List V → Hp → VK → Prop}
noncomputable def tCB (r : List V → Hp → VK → Prop) (t : TA) : TE := fun σ H Q => t σ H fun vs H1 => r vs H1 Q
theorem pe_callB (hc : CallR X (.builtin id) r) (hg : Gl X x) (hm : X.mg x = none) (hv : bootBuiltins x = some (.builtin id)) (ha : PA X (e :: es) t) (hn : x ≠ "__name__" := by decide) (hdb : (x == ("__debug__" : Str)) = false := by decide)
    (he : starEach (e :: es) X.env = (false, eval e X.env) :: starEach es X.env := by rfl) (hpl : (backTo pos (starEach es X.env)).any (·.1) = false := by rfl) : PE X (.Call (.Name x p) (e :: es) [] pos) (tCB r t) := by
  intro pins s σ H Q I h
  refine wpAny_Call_Name_kw (ld_blt I hg hm hv ?_ hn hdb)
  exact PyProof.Rows.callWith_builtin1 (thn (ha pos pins s σ H _ I h) fun us s1 ⟨vs, H1, I1, r1, q1⟩ => hc pins s1 σ H1 vs us Q I1 r1 q1) he hpl
theorem pe_callTy (hc : CallR X (.type T) r) (hg : Gl X x) (hm : X.mg x = none) (hv : bootBuiltins x = some (.type T)) (ha : PA X (e :: es) t) (hn : x ≠ "__name__" := by decide) (hdb : (x == ("__debug__" : Str)) = false := by decide)
    (he : starEach (e :: es) X.env = (false, eval e X.env) :: starEach es X.env := by rfl) (hpl : (backTo pos (starEach es X.env)).any (·.1) = false := by rfl) : PE X (.Call (.Name x p) (e :: es) [] pos) (tCB r t) := by
  intro pins s σ H Q I h
  refine wpAny_Call_Name_kw (ld_blt I hg hm hv ?_ hn hdb)
  exact PyProof.Rows.callWith_type1 (thn (ha pos pins s σ H _ I h) fun us s1 ⟨vs, H1, I1, r1, q1⟩ => hc pins s1 σ H1 vs us Q I1 r1 q1) he hpl
end
end L2
namespace HT
open PySem PyProof.Rows
section
open PySem.SeqAt
open PySem.AutoSeq1 (wpAny_loadPart')
open PySem.MeetsSeq PySem.MeetsSeq2 PySem.MeetsSeq3
end
section
variable {prog : Program} {w : World} {A : Around} {E : Value → Shared → Prop} {s : Shared}
noncomputable def sIx (n d : Nat) : Option Int → Nat
  | none => d
  | some v => if v < 0 then (v + (n : Int)).toNat else min v.toNat n
theorem sIx_nat (n d k : Nat) : sIx n d (some (k : Int)) = min k n := by
  show (if (k : Int) < 0 then ((k : Int) + (n : Int)).toNat else min (k : Int).toNat n) = min k n
  rw [if_neg (by omega), Int.toNat_natCast]
theorem sIx_le (n d : Nat) (hd : d ≤ n) (o : Option Int) : sIx n d o ≤ n := by
  cases o with
  | none => exact hd
  | some v =>
    show (if v < 0 then (v + (n : Int)).toNat else min v.toNat n) ≤ n
    by_cases hv : v < 0
    · rw [if_pos hv]; omega
    · rw [if_neg hv]; exact Nat.min_le_right _ _
theorem clip_eq (v : Int) (n d : Nat) : (if v < 0 then max (v + (n : Int)) 0 else min v (n : Int)) = ((sIx n d (some v) : Nat) : Int) := by
  show (if v < 0 then max (v + (n : Int)) 0 else min v (n : Int)) = (((if v < 0 then (v + (n : Int)).toNat else min v.toNat n) : Nat) : Int)
  by_cases hv : v < 0
  · simp only [if_pos hv]; omega
  · simp only [if_neg hv]; omega
theorem adjust_gen (lo hi : Option Int) (n : Nat) : Builtin.Slice.sliceAdjust lo hi 1 (n : Int) = (((sIx n 0 lo : Nat) : Int), ((sIx n n hi : Nat) : Int)) := by
  have h1 : ¬ ((1 : Int) < 0) := by omega
  unfold Builtin.Slice.sliceAdjust
  simp only [h1, if_false]
  refine Prod.ext ?_ ?_
  · cases lo with
    | none => rfl
    | some v => exact clip_eq v n 0
  · cases hi with
    | none => rfl
    | some v => exact clip_eq v n n
theorem places_gen (i j : Nat) : Builtin.Slice.slicePlaces (i : Int) (j : Int) 1 = j - i := by
  unfold Builtin.Slice.slicePlaces
  have h1 : (1 : Int) > 0 := by omega
  simp only [h1, if_true, Int.ediv_one]
  split <;> omega
theorem slicePart_ {v : Value} {o : Option Int} {Q : Option Int → Shared → Prop} (p : IsPart v o) (h : Q o s) : wpAny (model prog w) A (Builtin.Slice.slicePartIndex v) Q E s := by
  cases p with
  | none => exact slicePart_none h
  | int i t => exact slicePart_int h
theorem sliceApplied_gen {sl : Addr} {vl vu : Value} {lo hi : Option Int} {n : Nat} {Q : Int × Int × Nat → Shared → Prop} (hs : s.heap.IsSliceOf sl vl vu .none) (pl : IsPart vl lo) (pu : IsPart vu hi)
    (h : Q (((sIx n 0 lo : Nat) : Int), 1, sIx n n hi - sIx n 0 lo) s) : wpAny (model prog w) A (Builtin.Slice.sliceApplied (.ref sl) (pure (n : Int))) Q E s := by
  obtain ⟨os, hos, hcs, hds⟩ := id hs
  unfold Builtin.Slice.sliceApplied Builtin.Slice.sliceFields
  refine wpAny_bind (wpAny_bind (wpAny_field hos hds (x := vl) rfl (wpAny_bind (wpAny_field hos hds (x := vu) rfl (wpAny_bind (wpAny_field hos hds (x := .none) rfl (wpAny_pure ?_)))))))
  refine wpAny_bind (slicePart_none ?_)
  show wpAny _ _ (if ((1 : Int) == 0) = true then _ else _) _ _ s
  rw [if_neg (by decide)]
  refine wpAny_bind (slicePart_ pl (wpAny_bind (slicePart_ pu (wpAny_bind (wpAny_pure ?_)))))
  show wpAny _ _ (match Builtin.Slice.sliceAdjust lo hi 1 (n : Int) with | (lo, hi) => pure (lo, (1 : Int), Builtin.Slice.slicePlaces lo hi 1)) _ _ s
  rw [adjust_gen lo hi n]
  show wpAny _ _ (pure (((sIx n 0 lo : Nat) : Int), (1 : Int), Builtin.Slice.slicePlaces ((sIx n 0 lo : Nat) : Int) ((sIx n n hi : Nat) : Int) 1)) _ _ s
  rw [places_gen]
  exact wpAny_pure h
theorem pick_gen (xs : Array Value) (i k : Nat) : ((List.range k).filterMap fun (m : Nat) => xs[((i : Int) + (m : Int) * 1).toNat]?).toArray = ((xs.toList.drop i).take k).toArray := by
  have e : (fun (m : Nat) => xs[((i : Int) + (m : Int) * 1).toNat]?) = fun m => xs[i + m]? := by
    funext m
    have : ((i : Int) + (m : Int) * 1).toNat = i + m := by omega
    rw [this]
  rw [e]
  have := pick_run xs i k
  rw [List.filterMap_map] at this
  have e2 : ((fun x => xs[x]?) ∘ fun x => i + x) = fun m => xs[i + m]? := rfl
  rw [e2] at this
  rw [this]

theorem getItem_tuple_cut {t sl : Addr} {items : Array Value} {vl vu : Value} {lo hi : Option Int} {Q : Value → Shared → Prop} (ht : IsTup s.heap t items) (hs : s.heap.IsSliceOf sl vl vu .none) (pl : IsPart vl lo) (pu : IsPart vu hi)
    (hw : ¬ (sIx items.size 0 lo = 0 ∧ sIx items.size items.size hi = items.size))
    (h : Q (.ref s.heap.objs.size) { s with heap := s.heap.push { cls := .type "tuple", data := .seq ((items.toList.drop (sIx items.size 0 lo)).take (sIx items.size items.size hi - sIx items.size 0 lo)).toArray } })
    (hsz : items.size ≤ sizeLine) : wpAny (model prog w) A (getItem (.ref t) (.ref sl)) Q E s := by
  have htake : sizeOk (.seq ((items.toList.drop (sIx items.size 0 lo)).take (sIx items.size items.size hi - sIx items.size 0 lo)).toArray) := by
    show ((items.toList.drop (sIx items.size 0 lo)).take (sIx items.size items.size hi - sIx items.size 0 lo)).toArray.size ≤ sizeLine
    rw [List.size_toArray, List.length_take, List.length_drop, Array.length_toList]
    omega
  have hj : sIx items.size items.size hi ≤ items.size := sIx_le _ _ (Nat.le_refl _) hi
  obtain ⟨os, hos, hcs, hds⟩ := id hs
  have hTs : s.TypeIs (.ref sl) "slice" := ⟨os, hos, hcs⟩
  unfold getItem
  try with_reducible refine wpAny_holding ?_
  first | refine wpAny_bind (wpAny_pure ?_) | skip
  refine wpAny_bind (wpAny_sequenceKey ht.typeIs (by decide) ?_)
  refine wpAny_bind (wpAny_callSpecial?_slot (name := Str.ofString "__getitem__") ht.typeIs PyProof.Rows.slot_tuple_getitem
    (wpAny_call_entry PyProof.Rows.slot_tuple_getitem ht.typeIs entry_tuple_getitem ?_ (args_tuple_getitem _ _)))
  show wpAny _ _ (Builtin.Tuple.tupleItemsOf (.ref t) >>= _) _ _ s
  refine wpAny_bind (tupleItemsOf_ ht ?_)
  refine wpAny_bind (wpAny_typeOf hTs ?_)
  rw [if_pos (by decide)]
  refine wpAny_bind (sliceApplied_gen hs pl pu ?_)
  have hno : ¬ ((((sIx items.size 0 lo : Nat) : Int) == 0 && (1 : Int) == 1 && (sIx items.size items.size hi - sIx items.size 0 lo) == items.size) = true) := by
    intro q
    rw [Bool.and_eq_true, Bool.and_eq_true] at q
    have q1 : ((sIx items.size 0 lo : Nat) : Int) = 0 := eq_of_beq q.1.1
    have q2 : sIx items.size items.size hi - sIx items.size 0 lo = items.size := eq_of_beq q.2
    exact hw ⟨by omega, by omega⟩
  show wpAny _ _ (if (((sIx items.size 0 lo : Nat) : Int) == 0 && (1 : Int) == 1 && (sIx items.size items.size hi - sIx items.size 0 lo) == items.size) = true then _ else _) _ _ s
  rw [if_neg hno, pick_gen]
  first
    | exact wpAny_bind (m := Builtin.Tuple.tupleExact _) (wpAny_newObj_type (wpAny_pure ⟨_, rfl, wpAny_pure h⟩) htake)
    | exact wpAny_bind (m := Builtin.Tuple.tupleExact _) (wpAny_newObj_type (wpAny_bind (wpAny_pure (wpAny_pure ⟨_, rfl, wpAny_pure h⟩))) htake)
    | exact wpAny_bind (wpAny_bind (m := Builtin.Tuple.tupleExact _) (wpAny_newObj_type (wpAny_pure (wpAny_pure ⟨_, rfl, wpAny_pure h⟩)) htake))
    | exact wpAny_bind (wpAny_bind (m := Builtin.Tuple.tupleExact _) (wpAny_newObj_type (wpAny_pure ⟨_, rfl, wpAny_pure h⟩) htake))
end
end HT
namespace L2
open PySem PySem.Spec PyProof.Rows
noncomputable abbrev TO := St → Hp → (Option Int → Hp → Prop) → Prop
noncomputable def PO (X : Cx) (e : Option Expr) (t : TO) : Prop :=
  ∀ (pins : List (Addr × Obj)) (s : Shared) (σ : St) (H : Hp) (Q : Option Int → Hp → Prop), Inv X pins σ H s → t σ H Q →
    wpAny (model X.prog X.w) X.A (evalPart e X.env) (fun u s' => ∃ o H', Inv X pins σ H' s' ∧ IsPart u o ∧ Q o H') X.xe s
noncomputable def tNoPart : TO := fun _ H Q => Q none H
noncomputable def tPart (t : TE) : TO := fun σ H Q => t σ H fun x H1 => ∃ i, x = .int i ∧ Q (some i) H1

section
variable {X : Cx} {e : Expr} {te : TE} {lo hi : Option Expr} {tl th : TO} {pos p2 : Pos}
theorem po_none : PO X none tNoPart := by
  intro pins s σ H Q I h
  rw [evalPart_none]
  exact wpAny_pure ⟨none, H, I, .none, h⟩
theorem po_some (h : PE X e te) : PO X (some e) (tPart te) := by
  intro pins s σ H Q I hw
  rw [evalPart_some]
  refine thn (h pins s σ H _ I hw) fun u s1 ⟨x, H1, I1, r1, q1⟩ => ?_
  obtain ⟨i, rfl, q⟩ := q1
  obtain ⟨t, rfl⟩ := r1
  exact ⟨some i, H1, I1, .int i t, q⟩

noncomputable def SlR (X : Cx) (r : V → Option Int → Option Int → Hp → VK → Prop) : Prop :=
  ∀ (pins : List (Addr × Obj)) (s : Shared) (σ : St) (H : Hp) (x : V) (v vl vu : Value) (lo hi : Option Int) (sl : Addr) (Q : VK), Inv X pins σ H s → RelV x v → s.heap.IsSliceOf sl vl vu .none → IsPart vl lo → IsPart vu hi → r x lo hi H Q →
    ∃ T id, typeLookup (.type T) "__getitem__" = pure (some (.builtin id)) ∧ s.TypeIs v T ∧ wpAny (model X.prog X.w) X.A (getItem v (.ref sl)) (EP X pins σ Q) X.xe s
theorem SlR.or {r r' : V → Option Int → Option Int → Hp → VK → Prop} (h : SlR X r) (h' : SlR X r') : SlR X (fun x lo hi H Q => r x lo hi H Q ∨ r' x lo hi H Q) := by
  intro pins s σ H x v vl vu lo hi sl Q I rx hs pl pu q
  rcases q with q | q
  · exact h pins s σ H x v vl vu lo hi sl Q I rx hs pl pu q
  · exact h' pins s σ H x v vl vu lo hi sl Q I rx hs pl pu q
noncomputable def tSl (r : V → Option Int → Option Int → Hp → VK → Prop) (te : TE) (tl th : TO) : TE := fun σ H Q => te σ H fun x H1 => tl σ H1 fun l H2 => th σ H2 fun u H3 => r x l u H3 Q
theorem pe_slice {r : V → Option Int → Option Int → Hp → VK → Prop} (hr : SlR X r) (he : PE X e te) (hl : PO X lo tl) (hu : PO X hi th) : PE X (.Subscript e (.Slice lo hi none p2) pos) (tSl r te tl th) := by
  intro pins s σ H Q I h
  refine Subscript_ (thn (he pins s σ H _ I h) fun v s1 ⟨x, H1, I1, r1, q1⟩ => ?_)
  refine wpAny_Slice (thn (hl pins s1 σ H1 _ I1 q1) fun vl s2 ⟨l, H2, I2, pl, q2⟩ => thn (hu pins s2 σ H2 _ I2 q2) fun vu s3 ⟨u, H3, I3, pu, q3⟩ => ?_)
  rw [evalPart_none]
  refine wpAny_pure ?_
  have I4 : Inv X pins σ H3 { s3 with heap := s3.heap.push { cls := .type "slice", data := .fields #[vl, vu, .none] } } := I3.kept (t' := s3.toks) fun b ob q => Heap.get?_push_of_some _ q
  obtain ⟨T, id, hT, ht, hg⟩ := hr pins { s3 with heap := s3.heap.push { cls := .type "slice", data := .fields #[vl, vu, .none] } } σ H3 x v vl vu l u s3.heap.objs.size Q I4 r1 (Heap.IsSliceOf.new ..) pl pu q3
  show wpAny (model X.prog X.w) X.A (subscriptTail e (.Slice lo hi none p2) v (.ref s3.heap.objs.size)) (EP X pins σ Q) X.xe { s3 with heap := s3.heap.push { cls := .type "slice", data := .fields #[vl, vu, .none] } }
  exact tail_any (ops := [.ref s3.heap.objs.size, v]) ht hT hg (by with_unfolding_all rfl)

noncomputable def cutV (xs : List V) (lo hi : Option Int) : List V := (xs.drop (HT.sIx xs.length 0 lo)).take (HT.sIx xs.length xs.length hi - HT.sIx xs.length 0 lo)
theorem cutV_length (xs : List V) (lo hi : Option Int) : (cutV xs lo hi).length ≤ xs.length := by
  unfold cutV
  rw [List.length_take, List.length_drop]
  omega
noncomputable def rSlT (K : PySem.W.Frag) : V → Option Int → Option Int → Hp → VK → Prop := fun x lo hi H Q => ∃ a xs, x = .ref a ∧ SqT K H a xs ∧
  ¬ (HT.sIx xs.length 0 lo = 0 ∧ HT.sIx xs.length xs.length hi = xs.length) ∧ ∀ p, H p = none → Q (.ref p) (upd H p (.tup (cutV xs lo hi)))
theorem sl_tup : SlR X (rSlT X.K) := by
  intro pins s σ H x v vl vu lo hi sl Q I rx hs pl pu h
  obtain ⟨a, xs, rfl, hx, hw, q⟩ := h
  cases rx
  obtain ⟨its, r, ht, hz⟩ := I.tuple hx
  have hlen : its.toArray.size = xs.length := by rw [List.size_toArray]; exact r.length.symm
  refine ⟨"tuple", _, PyProof.Rows.slot_tuple_getitem.lookup, ht.typeIs, ?_⟩
  refine HT.getItem_tuple_cut ht hs pl pu (by rw [hlen]; exact hw) ?_ (by rw [hlen]; exact hz)
  rw [hlen]
  refine ⟨.ref s.heap.objs.size, _, I.laid (t' := s.toks) (o := .tup (cutV xs lo hi)) (fun b ob q => Heap.get?_push_of_some _ q) (Nat.le_refl _) ?_, rfl, q _ (I.hok.fresh (Nat.le_refl _))⟩
  exact ⟨Nat.le_trans (cutV_length xs lo hi) hz, _, (r.drop (HT.sIx xs.length 0 lo)).take (HT.sIx xs.length xs.length hi - HT.sIx xs.length 0 lo), IsTup.new _ _⟩

end
end L2
namespace L2
open PySem PySem.Spec PyProof.Rows
noncomputable def ixN (n : Nat) (i : Int) : Option Nat := if 0 ≤ i then (if i < n then some i.toNat else none) else if -(n : Int) ≤ i then some (i + n).toNat else none
noncomputable def atI {α : Type} (xs : List α) (i : Int) : Option α := (ixN xs.length i).bind fun j => xs[j]?
theorem ixN_seq {n : Nat} {i : Int} {j : Nat} (h : ixN n i = some j) : seqIndex? i n = some j ∧ j < n ∧ -(n : Int) ≤ i ∧ i < n := by
  unfold ixN at h
  by_cases h0 : 0 ≤ i
  · rw [if_pos h0] at h
    by_cases h1 : i < n
    · rw [if_pos h1] at h
      have e : i.toNat = j := Option.some.inj h
      exact ⟨by rw [seqIndex_of h0 h1, e], by omega, by omega, h1⟩
    · rw [if_neg h1] at h; cases h
  · rw [if_neg h0] at h
    by_cases h1 : -(n : Int) ≤ i
    · rw [if_pos h1] at h
      have e : (i + n).toNat = j := Option.some.inj h
      exact ⟨by rw [seqIndex_neg (by omega) h1, e], by omega, h1, by omega⟩
    · rw [if_neg h1] at h; cases h
theorem atI_get {α : Type} {xs : List α} {i : Int} {v : α} (h : atI xs i = some v) : ∃ j, seqIndex? i xs.length = some j ∧ xs[j]? = some v ∧ j < xs.length ∧ -(xs.length : Int) ≤ i ∧ i < xs.length := by
  unfold atI at h
  cases e : ixN xs.length i with
  | none => rw [e] at h; cases h
  | some j =>
    rw [e] at h
    obtain ⟨h1, h2, h3, h4⟩ := ixN_seq e
    exact ⟨j, h1, h, h2, h3, h4⟩
theorem atI_nat {α : Type} {xs : List α} {j : Nat} {v : α} (h : xs[j]? = some v) : atI xs (j : Int) = some v := by
  have hj : j < xs.length := (List.getElem?_eq_some_iff.mp h).1
  have e : ixN xs.length (j : Int) = some j := by
    unfold ixN
    rw [if_pos (by omega), if_pos (by omega)]; simp
  unfold atI; rw [e]; exact h
noncomputable def PlainIx (b : Expr) : Prop := ∀ o i, subscripted b false o i = operate [o, i] (getItem o i)
noncomputable def IxR (X : Cx) (r : R2) : Prop :=
  ∀ (value slice : Expr) (pins : List (Addr × Obj)) (s : Shared) (σ : St) (H : Hp) (x y : V) (v u : Value) (Q : VK), Inv X pins σ H s → RelV x v → RelV y u → r x y H Q →
    subscripted slice false v u = operate [v, u] (getItem v u) → wpAny (model X.prog X.w) X.A (subscriptTail value slice v u) (EP X pins σ Q) X.xe s
noncomputable def MtR (X : Cx) (id : String) (r : V → List V → Hp → VK → Prop) : Prop :=
  ∀ (pins : List (Addr × Obj)) (s : Shared) (σ : St) (H : Hp) (x : V) (xs : List V) (v : Value) (us : List Value) (Q : VK), Inv X pins σ H s → RelV x v → Vals xs us → r x xs H Q →
    wpAny (model X.prog X.w) X.A (call (.builtin id) (v :: us)) (EP X pins σ Q) X.xe s
section
variable {X : Cx} {a b : Expr} {ta tb : TE} {pos : Pos}
theorem IxR.or {r r' : R2} (h : IxR X r) (h' : IxR X r') : IxR X (fun x y H Q => r x y H Q ∨ r' x y H Q) := by
  intro value slice pins s σ H x y v u Q I rx ry q hs
  rcases q with q | q
  · exact h value slice pins s σ H x y v u Q I rx ry q hs
  · exact h' value slice pins s σ H x y v u Q I rx ry q hs
theorem pe_ix {r : R2} (hr : IxR X r) (ha : PE X a ta) (hb : PE X b tb) (hs : PlainIx b) : PE X (.Subscript a b pos) (tOp r ta tb) := by
  intro pins s σ H Q I h
  exact Subscript_ (binT ha hb I h fun v u s2 x y H2 I2 rx ry q => hr a b pins s2 σ H2 x y v u Q I2 rx ry q (hs _ _))

noncomputable def rIxL (K : PySem.W.Frag) : R2 := fun x y H Q => ∃ p xs i v, x = .ref p ∧ y = .int i ∧ SqL K H p xs ∧ atI xs i = some v ∧ Q v H
noncomputable def rIxT (K : PySem.W.Frag) : R2 := fun x y H Q => ∃ p xs i v, x = .ref p ∧ y = .int i ∧ SqT K H p xs ∧ atI xs i = some v ∧ Q v H
noncomputable def rIxS : R2 := fun x y H Q => ∃ z i c, x = .str z ∧ y = .int i ∧ z.length ≤ sizeLine ∧ atI z.cps.toList i = some c ∧ Q (.str ⟨#[c]⟩) H
theorem ix_list : IxR X (rIxL X.K) := by
  intro value slice pins s σ H x y v u Q I rx ry h hs
  obtain ⟨p, xs, i, z, rfl, rfl, hq, he, q⟩ := h
  cases rx
  obtain ⟨t, rfl⟩ := ry
  obtain ⟨its, r, pl, hz⟩ := I.list hq
  obtain ⟨j, h1, h2, h3, h4, h5⟩ := atI_get he
  obtain ⟨w, ew, rw'⟩ := r.get h2
  have hl := r.length
  have hn := line63
  have fin : EP X pins σ Q w s := ⟨z, H, I, rw', q⟩
  by_cases h0 : 0 ≤ i
  · have hj : i.toNat = j := by
      rw [seqIndex_of h0 h5] at h1
      exact Option.some.inj h1
    exact item_listR pl.isList h0 (by omega) (by rw [hj]; simpa using ew) fin hs
  · have hj : (i + (its.toArray.size : Int)).toNat = j := by
      rw [seqIndex_neg (by omega) h4] at h1
      rw [List.size_toArray, ← hl]
      exact Option.some.inj h1
    exact subscriptTail_builtinR (x := w) pl.isList.typeIs slot_list_getitem.lookup
      (wpAny_getItem_list_neg (Q := fun r s' => r = w ∧ EP X pins σ Q r s') pl.isList (by omega) (by rw [List.size_toArray] <;> omega) (by omega) (by rw [hj]; simpa using ew) ⟨rfl, fin⟩) hs
theorem ix_tup : IxR X (rIxT X.K) := by
  intro value slice pins s σ H x y v u Q I rx ry h hs
  obtain ⟨p, xs, i, z, rfl, rfl, hq, he, q⟩ := h
  cases rx
  obtain ⟨t, rfl⟩ := ry
  obtain ⟨its, r, pl, hz⟩ := I.tuple hq
  obtain ⟨j, h1, h2, h3, h4, h5⟩ := atI_get he
  obtain ⟨w, ew, rw'⟩ := r.get h2
  have hl := r.length
  have hn := line63
  have fin : EP X pins σ Q w s := ⟨z, H, I, rw', q⟩
  exact subscriptTail_builtinR (x := w) pl.typeIs slot_tuple_getitem.lookup
    (getItem_tuple (j := j) (Q := fun r s' => r = w ∧ EP X pins σ Q r s') pl (by omega) (by omega) (by rw [List.size_toArray, ← hl]; exact h1) (by simpa using ew) ⟨rfl, fin⟩) hs
theorem ix_str : IxR X rIxS := by
  intro value slice pins s σ H x y v u Q I rx ry h hs
  obtain ⟨z, i, c, rfl, rfl, hz, he, q⟩ := h
  obtain ⟨t, rfl⟩ := rx
  obtain ⟨t', rfl⟩ := ry
  obtain ⟨j, h1, h2, h3, h4, h5⟩ := atI_get he
  have hl : z.cps.toList.length = z.length := by simp [Str.length]
  rw [hl] at h1 h4 h5
  have hn := line63
  exact tail_any (typeIs_str s z t) slot_str_getitem.lookup (getItem_str (c := c) (by
    have e1 : decide (i < -(2 ^ 63 : Int)) = false := decide_eq_false (by omega)
    have e2 : decide (i ≥ 2 ^ 63) = false := decide_eq_false (by omega)
    rw [e1, e2, Bool.or_false]) (by rw [h1]; simpa using h2) ⟨.str ⟨#[c]⟩, H, I.tok _, ⟨_, rfl⟩, q⟩) hs
noncomputable def rIx (K : PySem.W.Frag) : R2 := fun x y H Q => rIxL K x y H Q ∨ rIxT K x y H Q ∨ rIxS x y H Q
theorem ix_seq : IxR X (rIx X.K) := ix_list.or (ix_tup.or ix_str)

theorem mapSeq_set (its : List Value) (n j : Nat) (u : Value) : Obj.mapSeq (·.setIfInBounds j u) { cls := .type "list", data := .seq its.toArray n } = { cls := .type "list", data := .seq (its.set j u).toArray n } := by
  simp [Obj.mapSeq]
theorem Inv.lst {pins : List (Addr × Obj)} {σ : St} {H : Hp} {s : Shared} {p : Addr} {xs : List V} (I : Inv X pins σ H s) (h : H p = some (.lst xs)) :
    ∃ (its : List Value) (n : Nat), Vals xs its ∧ s.heap.get? p = some { cls := .type "list", data := .seq its.toArray n } ∧ xs.length ≤ sizeLine := by
  obtain ⟨z, its, n, r, e⟩ := I.hok p _ h
  exact ⟨its, n, r, e, z⟩
theorem Inv.lstUpd {pins : List (Addr × Obj)} {σ : St} {H : Hp} {s : Shared} {p : Addr} {xs ys : List V} {its its' : List Value} {n n' : Nat} {f : Obj → Obj} (I : Inv X pins σ H s) (h : H p = some (.lst xs))
    (ho : s.heap.get? p = some { cls := .type "list", data := .seq its.toArray n }) (hf : f { cls := .type "list", data := .seq its.toArray n } = { cls := .type "list", data := .seq its'.toArray n' }) (r : Vals ys its') (hz : ys.length ≤ sizeLine) (t : Nat) :
    Inv X pins σ (upd H p (.lst ys)) { s with heap := s.heap.update p f, toks := t } := by
  have e : (s.heap.update p f).get? p = some { cls := .type "list", data := .seq its'.toArray n' } := by
    rw [Heap.get?_update_self f ho (by rw [hf] <;> rfl), hf]
  refine I.write (x := p) (e := p) (by rw [h]; trivial) (.inl rfl) (fun b u hb q => (Heap.get?_update_other _ _ (Ne.symm hb)).trans q) ⟨_, e⟩ ?_
  exact ⟨hz, its', n', r, e⟩
noncomputable def rSetL : V → V → V → Hp → (Hp → Prop) → Prop := fun o i v H Q => ∃ p xs k j, o = .ref p ∧ i = .int k ∧ H p = some (.lst xs) ∧ ixN xs.length k = some j ∧ Q (upd H p (.lst (xs.set j v)))
theorem set_list : PSet X rSetL := by
  intro pins s σ H o i v ov iv u Q I ro ri rv h
  obtain ⟨p, xs, k, j, rfl, rfl, hp, hj, q⟩ := h
  cases ro
  obtain ⟨t, rfl⟩ := ri
  obtain ⟨its, n, r, ho, hz⟩ := I.lst hp
  obtain ⟨h1, h2, h3, h4⟩ := ixN_seq hj
  have hl := r.length
  have hn := line63
  have I' : Inv X pins σ (upd H p (.lst (xs.set j v))) { s with heap := s.heap.update p (Obj.mapSeq (·.setIfInBounds j u)) } :=
    I.lstUpd hp ho (mapSeq_set its n j u) (r.set rv j) (by rw [List.length_set]; exact hz) s.toks
  by_cases h0 : 0 ≤ k
  · have hk : k.toNat = j := by
      rw [seqIndex_of h0 h4] at h1
      exact Option.some.inj h1
    exact PySem.W.ki_setAt ho h0 (by omega) (by rw [List.size_toArray, ← hl]; exact h4) (by rw [hk]; exact ⟨_, I', q⟩)
  · have hk : (k + (its.toArray.size : Int)).toNat = j := by
      rw [seqIndex_neg (by omega) h3] at h1
      rw [List.size_toArray, ← hl]
      exact Option.some.inj h1
    exact PySem.W.ki_setBack ho (by omega) (by rw [List.size_toArray, ← hl]; exact h3) (by omega) (by rw [hk]; exact ⟨_, I', q⟩)

theorem slice_bounds (lo hi : Option Int) (n : Nat) : (sliceBounds lo hi none n).1 = ((HT.sIx n 0 lo : Nat) : Int) ∧ (sliceBounds lo hi none n).2.1 = ((HT.sIx n n hi : Nat) : Int) ∧ (sliceBounds lo hi none n).2.2 = 1 := by
  refine ⟨?_, ?_, rfl⟩
  · cases lo with
    | none => simp [sliceBounds, HT.sIx]
    | some i =>
      simp only [sliceBounds, HT.sIx, Option.getD_none, show (1 : Int) > 0 by decide, if_true]
      by_cases h : i < 0
      · simp only [h, if_true] <;> omega
      · simp only [h, if_false] <;> omega
  · cases hi with
    | none => simp [sliceBounds, HT.sIx]
    | some i =>
      simp only [sliceBounds, HT.sIx, Option.getD_none, show (1 : Int) > 0 by decide, if_true]
      by_cases h : i < 0
      · simp only [h, if_true] <;> omega
      · simp only [h, if_false] <;> omega
theorem slicePick_cut (its : List Value) (lo hi : Option Int) : slicePick its.toArray lo hi none = ((its.drop (HT.sIx its.length 0 lo)).take (HT.sIx its.length its.length hi - HT.sIx its.length 0 lo)).toArray := by
  obtain ⟨h1, h2, h3⟩ := slice_bounds lo hi its.toArray.size
  unfold slicePick
  rw [h1, h2, h3]
  simp only [sliceRange_one, pick_run, List.size_toArray] <;> rfl
noncomputable def rSlL (K : PySem.W.Frag) : V → Option Int → Option Int → Hp → VK → Prop := fun x lo hi H Q => ∃ a xs, x = .ref a ∧ SqL K H a xs ∧ ∀ p, H p = none → Q (.ref p) (upd H p (.lst (cutV xs lo hi)))
theorem sl_list : SlR X (rSlL X.K) := by
  intro pins s σ H x v vl vu lo hi sl Q I rx hs pl pu h
  obtain ⟨a, xs, rfl, hx, q⟩ := h
  cases rx
  obtain ⟨its, r, ht, hz⟩ := I.list hx
  have hlen := r.length
  refine ⟨"list", _, slot_list_getitem.lookup, ht.isList.typeIs, ?_⟩
  refine wpAny_getItem_list_slice ht.isList hs pl pu .none (by simp) ?_ (by rw [List.size_toArray] <;> omega)
  rw [slicePick_cut, ← hlen]
  refine ⟨.ref s.heap.objs.size, _, I.laid (t' := s.toks) (o := .lst (cutV xs lo hi)) (fun b ob q => Heap.get?_push_of_some _ q) (Nat.le_refl _) ?_, rfl, q _ (I.hok.fresh (Nat.le_refl _))⟩
  exact ⟨Nat.le_trans (cutV_length xs lo hi) hz, _, 0, (r.drop (HT.sIx xs.length 0 lo)).take (HT.sIx xs.length xs.length hi - HT.sIx xs.length 0 lo), Heap.get?_push_size _ rfl⟩

theorem call_len_seq : CallR X (.builtin "len") (fun xs H Q => ∃ p ys, xs = [.ref p] ∧ (SqL X.K H p ys ∨ SqT X.K H p ys) ∧ Q (.int ys.length) H) := by
  intro pins s σ H xs us Q I r h
  obtain ⟨p, ys, rfl, hq, q⟩ := h
  obtain ⟨u, rfl, rx⟩ := vals1 r
  cases rx
  have hn := line63
  rcases hq with hq | hq
  · obtain ⟨its, r', pl, hz⟩ := I.list hq
    have hlen := r'.length
    exact Calls.call_len_list pl.isList (by simp only [List.size_toArray] <;> omega) ⟨.int ys.length, H, I.tok _, ⟨s.toks + 1, by rw [List.size_toArray, hlen]⟩, q⟩
  · obtain ⟨its, r', pl, hz⟩ := I.tuple hq
    have hlen := r'.length
    exact len_tuple pl (by simp only [List.size_toArray] <;> omega) ⟨.int ys.length, H, I.tok _, ⟨s.toks + 1, by rw [List.size_toArray, hlen]⟩, q⟩
theorem call_list_of : CallR X (.type "list") (fun xs H Q => ∃ p ys, xs = [.ref p] ∧ (SqL X.K H p ys ∨ SqT X.K H p ys) ∧ ∀ l, H l = none → Q (.ref l) (upd H l (.lst ys))) := by
  intro pins s σ H xs us Q I r h
  obtain ⟨p, ys, rfl, hq, q⟩ := h
  obtain ⟨u, rfl, rx⟩ := vals1 r
  cases rx
  have fin : ∀ (its : List Value), Vals ys its → ys.length ≤ sizeLine → ∀ (h' : Heap) (c' : Nat), (∀ b o', s.heap.get? b = some o' → h'.get? b = some o') →
      h'.get? s.heap.objs.size = some { cls := .type "list", dict := none, data := .seq its.toArray c', slots := #[] } → EP X pins σ Q (.ref s.heap.objs.size) { s with heap := h' } := fun its r' hz h' c' kp e =>
    ⟨.ref s.heap.objs.size, _, I.laid (t' := s.toks) kp (Nat.le_refl _) (show ObjOk X.prog X.w _ h' _ (.lst ys) from ⟨hz, its, c', r', e⟩), rfl, q _ (I.hok.fresh (Nat.le_refl _))⟩
  rcases hq with hq | hq
  · obtain ⟨its, r', pl, hz⟩ := I.list hq
    have hlen := r'.length
    obtain ⟨o, ho, hc, n, hd⟩ := pl.isList
    exact call_list_seq p (.inl rfl) ho hc hd (fun h' c' kp e => fin its r' hz h' c' kp e) (by simp only [List.size_toArray] <;> omega)
  · obtain ⟨its, r', pl, hz⟩ := I.tuple hq
    have hlen := r'.length
    obtain ⟨o, ho, hc, n, hd⟩ := pl
    exact call_list_seq p (.inr rfl) ho hc hd (fun h' c' kp e => fin its r' hz h' c' kp e) (by simp only [List.size_toArray] <;> omega)
noncomputable def tyV (K : PySem.W.Frag) (T : String) (x : V) (H : Hp) : Prop := match x with
  | .str _ => T = "str"
  | .int _ => T = "int"
  | .ref p => (T = "list" ∧ ∃ xs, SqL K H p xs) ∨ (T = "tuple" ∧ ∃ o, K.lookup p = some o ∧ o.cls = .type "tuple" ∧ o.dict = none) ∨
      (T = "dict" ∧ ((∃ kvs, H p = some (.dK kvs)) ∨ ∃ kvs, H p = some (.dT kvs))) ∨ (T = "set" ∧ ∃ S n, H p = some (.set S n))
  | _ => False
theorem tyV_is {pins : List (Addr × Obj)} {σ : St} {H : Hp} {s : Shared} {T : String} {x : V} {v : Value} (I : Inv X pins σ H s) (r : RelV x v) (ty : tyV X.K T x H) :
    s.TypeIs v T ∧ ∀ a, v = .ref a → ∃ ob, s.heap.get? a = some ob ∧ ob.dict = none := by
  cases x with
  | str z =>
    obtain ⟨t, rfl⟩ := r
    cases (show T = "str" from ty)
    exact ⟨typeIs_str s z t, fun _ e => nomatch e⟩
  | int i =>
    obtain ⟨t, rfl⟩ := r
    cases (show T = "int" from ty)
    exact ⟨typeIs_int s i t, fun _ e => nomatch e⟩
  | ref p =>
    cases r
    rcases ty with ⟨rfl, xs, hq⟩ | ⟨rfl, o, hk, hc, hd⟩ | ⟨rfl, hk⟩ | ⟨rfl, S, n, hk⟩
    · obtain ⟨its, _, pl, _⟩ := I.list hq
      refine ⟨pl.isList.typeIs, fun a e => ?_⟩
      cases e
      obtain ⟨o, n, e, c, hd, _⟩ := pl
      exact ⟨o, e, hd⟩
    · refine ⟨⟨o, I.kIn p o hk, hc⟩, fun a e => ?_⟩
      cases e
      exact ⟨o, I.kIn _ o hk, hd⟩
    · have z : ∃ o, s.heap.get? p = some o ∧ o.ExactDict := by
        rcases hk with ⟨kvs, hk⟩ | ⟨kvs, hk⟩
        · obtain ⟨_, _, _, _, o, _, _, e, ex, _⟩ := I.hok p _ hk
          exact ⟨o, e, ex⟩
        · obtain ⟨_, _, _, _, o, _, _, e, ex, _⟩ := I.hok p _ hk
          exact ⟨o, e, ex⟩
      obtain ⟨o, e, ex⟩ := z
      refine ⟨⟨o, e, ex.1⟩, fun a e2 => ?_⟩
      cases e2
      exact ⟨o, e, ex.2.1⟩
    · obtain ⟨o, _, _, _, e, ex, _⟩ := I.hok p _ hk
      refine ⟨⟨o, e, ex.1⟩, fun a e2 => ?_⟩
      cases e2
      exact ⟨o, e, ex.2.1⟩
  | _ => exact False.elim ty
noncomputable def tBM (K : PySem.W.Frag) (T : String) (r : V → List V → Hp → VK → Prop) (to : TE) (t : TA) : TE := fun σ H Q => to σ H fun x H1 => tyV K T x H1 ∧ t σ H1 fun xs H2 => r x xs H2 Q
variable {o e : Expr} {es : List Expr} {to : TE} {t : TA} {name : Str} {apos cpos : Pos} {T id : String} {r : V → List V → Hp → VK → Prop}
theorem pe_bm (pa : PlainAttrs T) (slot : Slot T name id) (hty : typeOf (.builtin id) = pure (.type "method_descriptor")) (hm : MtR X id r) (ho : PE X o to) (ha : PA X (e :: es) t)
    (hbase : attributeBase o name X.env (eval o X.env) = eval o X.env := by rfl)
    (hfew : ((backTo cpos (starEach (e :: es) X.env)).all (fun x => !x.1) && (backToKw cpos (keywordEach [] X.env)).all (fun x => x.1.isSome)
      && decide ((e :: es).length + ([] : List Keyword).length + (if ([] : List Keyword).isEmpty then 0 else 1) < 30)) = true := by rfl)
    (hline : (apos.endLine == cpos.line) = true := by rfl) (hs : starEach (e :: es) X.env = (false, eval e X.env) :: starEach es X.env := by rfl) (hplain : (backTo cpos (starEach es X.env)).any (·.1) = false := by rfl) :
    PE X (.Call (.Attribute o name apos) (e :: es) [] cpos) (tBM X.K T r to t) := by
  intro pins s σ H Q I h
  refine wpAny_Call_method_late hbase hfew hline rfl (thn (ho pins s σ H _ I h) fun v s1 ⟨x, H1, I1, r1, ty, q1⟩ => ?_)
  obtain ⟨h1, h2⟩ := tyV_is I1 r1 ty
  refine ⟨T, id, pa, slot, hty, h1, h2, ?_⟩
  have hA := ha cpos pins s1 σ H1 _ I1 q1
  rw [hs] at hA ⊢
  refine Calls.callWith_builtin (by show (false || (backTo cpos (starEach es X.env)).any (·.1)) = false; rw [hplain] <;> rfl) (Calls.evalArgs_plain ?_)
  exact thn hA fun us s2 ⟨vs, H2, I2, r2, q2⟩ => hm pins s2 σ H2 x vs v us Q I2 r1 r2 q2
end
end L2
namespace L2
open PySem PySem.Spec PyProof.Rows
noncomputable def MtM (X : Cx) (id : String) (r : V → List V → Hp → VK → Prop) : Prop :=
  ∀ (pins : List (Addr × Obj)) (s : Shared) (σ : St) (H : Hp) (x : V) (xs : List V) (v : Value) (us : List Value) (Q : VK), Inv X pins σ H s → RelV x v → Vals xs us → r x xs H Q →
    wpAny (model X.prog X.w) X.A (call (.builtin id) (v :: us)) (EP X pins σ Q) X.xe s

theorem Vals.one : ∀ {x : V} {us : List Value}, Vals [x] us → ∃ u, us = [u] ∧ RelV x u
  | _, _, h => vals1 h
theorem Vals.reverse {xs : List V} {us : List Value} (h : Vals xs us) : Vals xs.reverse us.reverse := by
  induction h with
  | nil => exact .nil
  | cons r t ih => rw [List.reverse_cons, List.reverse_cons]; exact Vals.append ih (.cons r .nil)
theorem Vals.rep {xs : List V} {us : List Value} (h : Vals xs us) : ∀ k : Nat, Vals (List.replicate k xs).flatten (List.replicate k us).flatten
  | 0 => .nil
  | k + 1 => by
    rw [List.replicate_succ, List.replicate_succ, List.flatten_cons, List.flatten_cons]
    exact Vals.append h (Vals.rep h k)
theorem foldl_rep (its : List Value) : ∀ (k : Nat) (acc : List Value),
    List.foldl (fun x1 x2 => x1 ++ x2) acc.toArray (List.replicate k its.toArray) = (acc ++ (List.replicate k its).flatten).toArray
  | 0, acc => by simp
  | k + 1, acc => by
    have e : acc.toArray ++ its.toArray = (acc ++ its).toArray := by simp
    have e2 : (acc ++ its) ++ (List.replicate k its).flatten = acc ++ (List.replicate (k + 1) its).flatten := by
      rw [List.replicate_succ, List.flatten_cons, List.append_assoc]
    rw [← e2, ← foldl_rep its k (acc ++ its), ← e, List.replicate_succ, List.foldl_cons]

section
variable {X : Cx} {pins : List (Addr × Obj)} {σ : St} {H : Hp} {s : Shared} {l b : Addr} {xs ys zs : List V}
theorem Inv.lset {its its' : List Value} {n : Nat} {f : Array Value → Array Value} {t' : Nat} (I : Inv X pins σ H s) (hH : H l = some (.lst xs))
    (e : s.heap.get? l = some { cls := .type "list", data := .seq its.toArray n }) (hf : f its.toArray = its'.toArray) (hv : Vals ys its') (hz : ys.length ≤ sizeLine) :
    Inv X pins σ (upd H l (.lst ys)) { s with heap := s.heap.update l (Obj.mapSeq f), toks := t' } := by
  have q := PySem.IsL.update e f
  rw [hf] at q
  refine I.write (x := l) (e := l) (by rw [hH]; exact trivial) (.inl rfl) (fun b' u hb hu => (Heap.get?_update_other s.heap (Obj.mapSeq f) (Ne.symm hb)).trans hu) ⟨_, q⟩ ?_
  exact ⟨hz, its', _, hv, q⟩
theorem Inv.lnew {its : List Value} {t' : Nat} (I : Inv X pins σ H s) (hv : Vals ys its) (hz : ys.length ≤ sizeLine) :
    Inv X pins σ (upd H s.heap.objs.size (.lst ys)) { s with heap := s.heap.push { cls := .type "list", data := .seq its.toArray }, toks := t' } :=
  I.laid (fun _ _ q => Heap.get?_push_of_some _ q) (Nat.le_refl _) ⟨hz, its, 0, hv, Heap.get?_push_size _ rfl⟩
theorem Inv.fresh (I : Inv X pins σ H s) : H s.heap.objs.size = none := I.hok.fresh (Nat.le_refl _)
theorem Inv.lstM (I : Inv X pins σ H s) (hH : H l = some (.lst xs)) : xs.length ≤ sizeLine ∧ ∃ (its : List Value) (n : Nat), Vals xs its ∧ xs.length = its.length ∧ s.heap.get? l = some { cls := .type "list", data := .seq its.toArray n } := by
  obtain ⟨z, its, n, r, e⟩ := I.hok l _ hH
  exact ⟨z, its, n, r, r.length, e⟩

theorem notLongL {n : Nat} (h : n ≤ sizeLine) : Builtin.List.listTooLong n = false := by
  unfold Builtin.List.listTooLong
  exact decide_eq_false (by omega)
end
section
variable {X : Cx}
noncomputable def rAppend : V → List V → Hp → VK → Prop := fun x vs H Q => ∃ l xs y, x = .ref l ∧ vs = [y] ∧ H l = some (.lst xs) ∧ xs.length < sizeLine ∧ Q .non (upd H l (.lst (xs ++ [y])))
theorem mt_append : MtM X "list.append" rAppend := by
  intro pins s σ H x vs v us Q I rx rv h
  obtain ⟨l, xs, y, rfl, rfl, hH, hz, q⟩ := h
  cases rx
  obtain ⟨u, rfl, ru⟩ := rv.one
  obtain ⟨z, its, n, r, hl, e⟩ := I.lstM hH
  refine call_meets F.slot_list_append ⟨_, e, rfl⟩ F.entry_list_append (F.args_list_append_2 _ _) (PySem.list_append l its.toArray n u (by rw [List.size_toArray]; omega)) ⟨e, ?_⟩
  refine ⟨.non, _, I.lset (its' := its ++ [u]) hH e (by simp) (r.append (.cons ru .nil)) ?_, rfl, q⟩
  rw [List.length_append, List.length_singleton]
  omega

noncomputable def rCat : R2 := fun x y H Q => ∃ l b xs zs, x = .ref l ∧ y = .ref b ∧ H l = some (.lst xs) ∧ H b = some (.lst zs) ∧ xs.length + zs.length ≤ sizeLine ∧ ∀ p, H p = none → Q (.ref p) (upd H p (.lst (xs ++ zs)))
theorem op_cat : OpR X (binaryOp .Add) rCat := by
  intro pins s σ H x y v u Q I rx ry h
  obtain ⟨l, b, xs, zs, rfl, rfl, hH, hB, hz, q⟩ := h
  cases rx
  cases ry
  obtain ⟨z, its, n, r, hl, e⟩ := I.lstM hH
  obtain ⟨z2, its2, n2, r2, hl2, e2⟩ := I.lstM hB
  refine PySem.P.add_list e e2 ?_ (by rw [List.size_toArray, List.size_toArray]; omega)
  have ea : its.toArray ++ its2.toArray = (its ++ its2).toArray := by simp
  rw [ea]
  exact ⟨.ref _, _, I.lnew (t' := s.toks) (r.append r2) (by rw [List.length_append]; omega), rfl, q _ I.fresh⟩
noncomputable def rRep : R2 := fun x y H Q => ∃ l k xs, x = .ref l ∧ y = .int k ∧ H l = some (.lst xs) ∧ -(2 ^ 63) ≤ k ∧ k < 2 ^ 63 ∧ xs.length * k.toNat ≤ sizeLine ∧
  ∀ p, H p = none → Q (.ref p) (upd H p (.lst (List.replicate k.toNat xs).flatten))
theorem len_rep {α : Type} (xs : List α) (k : Nat) : (List.replicate k xs).flatten.length = k * xs.length := by
  induction k with
  | zero => simp
  | succ k ih => rw [List.replicate_succ, List.flatten_cons, List.length_append, ih, Nat.succ_mul, Nat.add_comm]
theorem op_rep : OpR X (binaryOp .Mult) rRep := by
  intro pins s σ H x y v u Q I rx ry h
  obtain ⟨l, k, xs, rfl, rfl, hH, h1, h2, hz, q⟩ := h
  cases rx
  obtain ⟨t, rfl⟩ := ry
  obtain ⟨z, its, n, r, hl, e⟩ := I.lstM hH
  have hlen : its.toArray.size * k.toNat ≤ sizeLine := by rw [List.size_toArray, ← hl]; exact hz
  have hcap : ¬ its.toArray.size * k.toNat > (2 ^ 63 - 1) / 8 := by
    have : (sizeLine : Nat) ≤ (2 ^ 63 - 1) / 8 := by decide
    omega
  have hfit : ¬ (!Builtin.List.listFitsIndex k) = true := by
    rw [fitsIndex_both h1 h2]
    exact Bool.false_ne_true
  have hlong : ¬ Builtin.List.listTooLong (its.toArray.size * k.toNat) = true := by
    rw [notLongL hlen]
    exact Bool.false_ne_true
  have hnew : List.foldl (fun x1 x2 => x1 ++ x2) #[] (List.replicate (if its.toArray.isEmpty = true then 0 else k.toNat) its.toArray) = (List.replicate k.toNat its).flatten.toArray := by
    have f0 : ∀ m : Nat, List.foldl (fun x1 x2 => x1 ++ x2) #[] (List.replicate m its.toArray) = (List.replicate m its).flatten.toArray := fun m => by
      have := foldl_rep its m []
      rw [List.nil_append] at this
      exact this
    rw [f0]
    cases its with
    | nil => simp
    | cons a r' => rw [if_neg (by simp)]
  refine wpAny_binaryOp_repeat_ref (T := "list") (U := "int") (by decide) ⟨_, e, rfl⟩ (fun s' => typeIs_int s' k t) noFill_list_mul F.fills_int_mul F.slot_int_rmul repeat_list F.slot_int_index.lookup
    (call_meets F.slot_int_rmul (typeIs_int s k t) F.entry_int_rmul (F.args_int_rmul_2 _ _) (int___rmul___int_list k t l its.toArray n)
      ⟨e, rfl, ⟨_, e, rfl⟩, call_meets F.slot_list_mul ⟨_, e, rfl⟩ F.entry_list_mul (F.args_list_mul_2 _ _) (AutoListH.list___mul___list_int_3 l its.toArray n k t hfit hcap hlong) ⟨e, ?_⟩⟩)
  rw [hnew]
  exact ⟨.ref _, _, I.lnew (t' := s.toks) (r.rep k.toNat) (by rw [len_rep, Nat.mul_comm]; exact hz), rfl, q _ I.fresh⟩

end
section
variable {prog : Program} {w : World} {A : Around} {E : Value → Shared → Prop} {s : Shared}
end
section
variable {X : Cx}
end
end L2
namespace L2
open PySem PySem.Spec PyProof.Rows
section
variable {κ : Type} [DecidableEq κ]
noncomputable def valV (kvs : List (κ × V)) (k : κ) : Option V := (kvs.find? fun kv => decide (kv.1 = k)).map (·.2)
noncomputable def putK (kvs : List (κ × V)) (k : κ) (v : V) : List (κ × V) :=
  if (kvs.any fun kv => decide (kv.1 = k)) = true then kvs.map (fun kv => if kv.1 = k then (kv.1, v) else kv) else kvs ++ [(k, v)]
theorem valV_nil {k : κ} : valV ([] : List (κ × V)) k = none := rfl
theorem valV_pos {p : κ × V} {r : List (κ × V)} {k : κ} (e : p.1 = k) : valV (p :: r) k = some p.2 := by simp [valV, List.find?_cons, e]
theorem valV_neg {p : κ × V} {r : List (κ × V)} {k : κ} (e : ¬ p.1 = k) : valV (p :: r) k = valV r k := by simp [valV, List.find?_cons, e]
theorem valV_any (k : κ) : ∀ kvs : List (κ × V), (kvs.any fun kv => decide (kv.1 = k)) = (valV kvs k).isSome
  | [] => rfl
  | p :: r => by
    rw [List.any_cons]
    by_cases e : p.1 = k
    · simp only [valV_pos e, decide_eq_true e, Bool.true_or, Option.isSome_some]
    · rw [valV_neg e, decide_eq_false e, Bool.false_or]; exact valV_any k r
theorem length_putK (kvs : List (κ × V)) (k : κ) (v : V) : (putK kvs k v).length ≤ kvs.length + 1 := by
  unfold putK
  split
  · rw [List.length_map]; omega
  · rw [List.length_append, List.length_cons, List.length_nil]; omega
theorem RelO.isSome_eq {o : Option V} {u : Option Value} (r : RelO o u) : o.isSome = u.isSome := by
  cases o with
  | none => cases u with
    | none => rfl
    | some _ => exact (show False from r).elim
  | some _ => cases u with
    | none => exact (show False from r).elim
    | some _ => rfl
theorem KV.val {kvs : List (κ × V)} {vs : List (κ × Value)} (r : KV kvs vs) (k : κ) : RelO (valV kvs k) (valueAt vs k) := by
  unfold KV at r
  induction r with
  | nil => exact True.intro
  | @cons p q ps qs h t ih =>
    obtain ⟨h1, h2⟩ := h
    by_cases e : p.1 = k
    · have e' : q.1 = k := h1.symm.trans e
      have b : valueAt (q :: qs) k = some q.2 := by simp [valueAt, List.find?_cons, e']
      rw [valV_pos e, b]; exact h2
    · have e' : ¬ q.1 = k := fun z => e (h1.trans z)
      have b : valueAt (q :: qs) k = valueAt qs k := by simp [valueAt, List.find?_cons, e']
      rw [valV_neg e, b]; exact ih
theorem KV.any {kvs : List (κ × V)} {vs : List (κ × Value)} (r : KV kvs vs) (k : κ) : (kvs.any fun kv => decide (kv.1 = k)) = vs.any fun kv => decide (kv.1 = k) := by
  unfold KV at r
  induction r with
  | nil => rfl
  | cons h t ih => rw [List.any_cons, List.any_cons, ih, h.1]
theorem KV.repl {kvs : List (κ × V)} {vs : List (κ × Value)} (r : KV kvs vs) (k : κ) {y : V} {u : Value} (ry : RelV y u) :
    KV (kvs.map fun kv => if kv.1 = k then (kv.1, y) else kv) (vs.map fun kv => if kv.1 = k then (kv.1, u) else kv) := by
  unfold KV at r ⊢
  induction r with
  | nil => exact .nil
  | @cons p q ps qs h t ih =>
    rw [List.map_cons, List.map_cons]
    refine .cons ?_ ih
    obtain ⟨h1, h2⟩ := h
    by_cases e : p.1 = k
    · rw [if_pos e, if_pos (h1.symm.trans e)]; exact ⟨h1, ry⟩
    · rw [if_neg e, if_neg (fun z => e (h1.trans z))]; exact ⟨h1, h2⟩
theorem KV.put {kvs : List (κ × V)} {vs : List (κ × Value)} (r : KV kvs vs) (k : κ) {y : V} {u : Value} (ry : RelV y u) : KV (putK kvs k y) (stored vs k u) := by
  unfold putK stored
  rw [r.any k]
  by_cases e : (vs.any fun kv => decide (kv.1 = k)) = true
  · rw [if_pos e, if_pos e]; exact r.repl k ry
  · rw [if_neg e, if_neg e]; exact Paired.snoc r ⟨rfl, ry⟩
theorem KV.length {kvs : List (κ × V)} {vs : List (κ × Value)} (r : KV kvs vs) : kvs.length = vs.length := Paired.length r
end
theorem kV_is {P : Program} {w : World} {k : Key} {u : Value} (r : RelV (kV k) u) : (mixKind P w).is k u = true := by
  cases k with
  | inl i => obtain ⟨t, e⟩ := (show ∃ t, u = Value.int i t from r); subst e; exact mixKind_int P w i t
  | inr x => obtain ⟨t, e⟩ := (show ∃ t, u = Value.str x t from r); subst e; exact mixKind_str P w x t
theorem items_are {P : Program} {w : World} : ∀ {ks : List Key} {us : List Value}, Vals (ks.map kV) us → ItemsAre (mixKind P w) ks us
  | [], _, r => by rw [List.map_nil] at r; cases r; exact .nil
  | k :: ks, _, r => by
    rw [List.map_cons] at r
    cases r with
    | cons h t => exact .cons (kV_is h) (items_are t)

noncomputable abbrev KT (H : Hp) : List (List Key × V) → List (List Key × Addr × Value) → Prop := Paired fun p q => p.1 = q.1 ∧ H q.2.1 = some (.tup (p.1.map kV)) ∧ RelV p.2 q.2.2
theorem KT.val {H : Hp} {kvs : List (List Key × V)} {xs : List (List Key × Addr × Value)} (r : KT H kvs xs) (k : List Key) : RelO (valV kvs k) ((atKey xs k).map (·.2)) := by
  induction r with
  | nil => exact True.intro
  | @cons p q ps qs h t ih =>
    obtain ⟨h1, _, h2⟩ := h
    by_cases e : p.1 = k
    · have e' : q.1 = k := h1.symm.trans e
      have b : atKey (q :: qs) k = some q.2 := by simp [atKey, List.find?_cons, e']
      rw [valV_pos e, b]; exact h2
    · have e' : ¬ q.1 = k := fun z => e (h1.trans z)
      have b : atKey (q :: qs) k = atKey qs k := by simp [atKey, List.find?_cons, e']
      rw [valV_neg e, b]; exact ih
theorem KT.repl {H : Hp} {kvs : List (List Key × V)} {xs : List (List Key × Addr × Value)} (r : KT H kvs xs) (k : List Key) {y : V} {u : Value} (ry : RelV y u) :
    KT H (kvs.map fun kv => if kv.1 = k then (kv.1, y) else kv) (xs.map (putAt k u)) := by
  induction r with
  | nil => exact .nil
  | @cons p q ps qs h t ih =>
    rw [List.map_cons, List.map_cons]
    refine .cons ?_ ih
    obtain ⟨h1, h2, h3⟩ := h
    unfold putAt
    by_cases e : p.1 = k
    · rw [if_pos e, if_pos (h1.symm.trans e)]; exact ⟨h1, h2, ry⟩
    · rw [if_neg e, if_neg (fun z => e (h1.trans z))]; exact ⟨h1, h2, h3⟩
theorem KT.put {H : Hp} {kvs : List (List Key × V)} {xs : List (List Key × Addr × Value)} (r : KT H kvs xs) (k : List Key) {b : Addr} {y : V} {u : Value} (hb : H b = some (.tup (k.map kV))) (ry : RelV y u) :
    KT H (putK kvs k y) (storedH xs k b u) := by
  have e : (kvs.any fun kv => decide (kv.1 = k)) = (atKey xs k).isSome := by
    rw [valV_any, (r.val k).isSome_eq, Option.isSome_map]
  unfold putK storedH
  rw [e]
  by_cases q : (atKey xs k).isSome = true
  · rw [if_pos q, if_pos q]; exact r.repl k ry
  · rw [if_neg q, if_neg q]; exact Paired.snoc r ⟨rfl, hb, ry⟩
theorem KT.keeps {H H' : Hp} {kvs : List (List Key × V)} {xs : List (List Key × Addr × Value)} (r : KT H kvs xs) (ht : ∀ b ys, H b = some (.tup ys) → H' b = some (.tup ys)) : KT H' kvs xs :=
  Paired.mapP r fun _ _ z => ⟨z.1, ht _ _ z.2.1, z.2.2⟩

section
variable {P : Program} {w : World} {H : Hp} {h : Heap} {a : Addr}
theorem rd_of {u : HO} (ok : HOk P w H h) (e : Rd H a u) : ObjOk P w H h a u := e.ok ok
theorem dk_rd {kvs : List (Key × V)} (ok : HOk P w H h) (e : Rd H a (.dK kvs)) : kvs.length ≤ sizeLine ∧ (a == sysModules) = false ∧ ∃ vs, KV kvs vs ∧ h.DictOf (mixKind P w) a vs :=
  show ObjOk P w H h a (.dK kvs) from rd_of ok e
theorem dk_of {kvs : List (Key × V)} (ok : HOk P w H h) (e : H a = some (.dK kvs)) : kvs.length ≤ sizeLine ∧ (a == sysModules) = false ∧ ∃ vs, KV kvs vs ∧ h.DictOf (mixKind P w) a vs := dk_rd ok (.inl e)
theorem key_of {ks : List Key} (ok : HOk P w H h) (e : H a = some (.tup (ks.map kV))) : (tupleKind (mixKind P w)).is h ks a := by
  obtain ⟨_, its, r, o, h1, h2, n, h3⟩ := (show ObjOk P w H h a (.tup (ks.map kV)) from ok a _ e)
  exact ⟨o, its.toArray, n, h1, h2, h3, by simpa using items_are r⟩
theorem dt_rd {kvs : List (List Key × V)} (ok : HOk P w H h) (e : Rd H a (.dT kvs)) : kvs.length ≤ sizeLine ∧ (a == sysModules) = false ∧
    ∃ xs, KT H kvs xs ∧ h.DictOfH (tupleKind (mixKind P w)) a xs := by
  obtain ⟨z, y, xs, r, o, es, ep, h1, h2, h3, h4, h5⟩ := (show ObjOk P w H h a (.dT kvs) from rd_of ok e)
  refine ⟨z, y, xs, r, o, es, ep, h1, h2, h3, h4, fun x hx => ?_, h5⟩
  have all : ∀ {l : List (List Key × V)} {m : List (List Key × Addr × Value)}, KT H l m → ∀ x ∈ m, (tupleKind (mixKind P w)).is h x.1 x.2.1 := by
    intro l m q
    induction q with
    | nil => intro x hx; exact nomatch hx
    | @cons p q ps qs hq t ih =>
      intro x hx
      rcases List.mem_cons.mp hx with e | hx
      · subst e
        exact key_of ok (by rw [← hq.1]; exact hq.2.1)
      · exact ih x hx
  exact all r x hx
theorem dt_of {kvs : List (List Key × V)} (ok : HOk P w H h) (e : H a = some (.dT kvs)) : kvs.length ≤ sizeLine ∧ (a == sysModules) = false ∧
    ∃ xs, KT H kvs xs ∧ h.DictOfH (tupleKind (mixKind P w)) a xs := dt_rd ok (.inl e)
end
noncomputable def DGet (H : Hp) (a : Addr) (y : V) (r : Option V) : Prop :=
  (∃ kvs k, Rd H a (.dK kvs) ∧ y = kV k ∧ r = valV kvs k) ∨ ∃ kvs k b, Rd H a (.dT kvs) ∧ y = .ref b ∧ H b = some (.tup (k.map kV)) ∧ r = valV kvs k
noncomputable def DPut (H : Hp) (a : Addr) (y v : V) (H' : Hp) : Prop :=
  (∃ kvs k, H a = some (.dK kvs) ∧ y = kV k ∧ kvs.length < sizeLine ∧ H' = upd H a (.dK (putK kvs k v))) ∨
  ∃ kvs k b, H a = some (.dT kvs) ∧ y = .ref b ∧ H b = some (.tup (k.map kV)) ∧ kvs.length < sizeLine ∧ H' = upd H a (.dT (putK kvs k v))
theorem DGet.k {H : Hp} {a : Addr} {kvs : List (Key × V)} {k : Key} (e : H a = some (.dK kvs)) : DGet H a (kV k) (valV kvs k) := .inl ⟨kvs, k, .inl e, rfl, rfl⟩
theorem DGet.t {H : Hp} {a b : Addr} {kvs : List (List Key × V)} {k : List Key} (e : H a = some (.dT kvs)) (eb : H b = some (.tup (k.map kV))) : DGet H a (.ref b) (valV kvs k) := .inr ⟨kvs, k, b, .inl e, rfl, eb, rfl⟩
theorem DPut.k {H : Hp} {a : Addr} {kvs : List (Key × V)} {k : Key} {v : V} (e : H a = some (.dK kvs)) (hl : kvs.length < sizeLine) : DPut H a (kV k) v (upd H a (.dK (putK kvs k v))) := .inl ⟨kvs, k, e, rfl, hl, rfl⟩
theorem DPut.t {H : Hp} {a b : Addr} {kvs : List (List Key × V)} {k : List Key} {v : V} (e : H a = some (.dT kvs)) (eb : H b = some (.tup (k.map kV))) (hl : kvs.length < sizeLine) :
    DPut H a (.ref b) v (upd H a (.dT (putK kvs k v))) := .inr ⟨kvs, k, b, e, rfl, eb, hl, rfl⟩


section
variable {X : Cx} {pins : List (Addr × Obj)} {σ : St} {H : Hp} {s : Shared} {a : Addr} {y v : V} {u r : Value} {o : Option V} {A : Around} {E : Value → Shared → Prop}
theorem Inv.big (I : Inv X pins σ H s) : sysModules < s.heap.objs.size := by
  have h : mainGlobals < s.heap.objs.size := (I.mod.glob.keeps I.bk).lt
  exact Nat.lt_trans (by decide) h

theorem d_getItem {Q : Value → Shared → Prop} (hu : A.units + 1 < cLine) (I : Inv X pins σ H s) (g : DGet H a y (some v)) (ry : RelV y u) (h : ∀ w' s', Inv X pins σ H s' → RelV v w' → Q w' s') :
    wpAny (model X.prog X.w) A (getItem (.ref a) u) Q E s := by
  rcases g with ⟨kvs, k, e, ey, l⟩ | ⟨kvs, k, b, e, ey, eb, l⟩
  · subst ey
    obtain ⟨z, hd, vs, rel, dd⟩ := dk_rd I.hok e
    obtain ⟨w', hw, rw'⟩ := RelO.some_of (v := v) (o := valueAt vs k) (by rw [l]; exact rel.val k)
    exact wpAny_getItem_of (kV_is ry) dd.mapOf hw (h w' _ (I.tok _) rw')
  · subst ey
    cases (show u = Value.ref b from ry)
    obtain ⟨z, hd, xs, rel, dd⟩ := dt_rd I.hok e
    obtain ⟨w', hw, rw'⟩ := RelO.some_of (v := v) (o := (atKey xs k).map (·.2)) (by rw [l]; exact rel.val k)
    obtain ⟨p, hp, hp2⟩ := Option.map_eq_some_iff.mp hw
    refine wpAny_getItem_heap (tupleKind_room_in1 hu) (key_of I.hok eb) dd hp ?_
    rw [hp2]
    exact h w' _ (I.tok _) rw'
theorem d_notIn {Q : Value → Shared → Prop} (hu : A.units + 1 < cLine) (I : Inv X pins σ H s) (g : DGet H a y o) (ry : RelV y u) (h : ∀ s', Inv X pins σ H s' → Q (.bool (!o.isSome)) s') :
    wpAny (model X.prog X.w) A (compareOp .NotIn u (.ref a)) Q E s := by
  rcases g with ⟨kvs, k, e, ey, l⟩ | ⟨kvs, k, b, e, ey, eb, l⟩
  · subst ey
    obtain ⟨z, hd, vs, rel, dd⟩ := dk_rd I.hok e
    refine wpAny_notIn_of (kV_is ry) hd dd.mapOf ?_
    rw [← (rel.val k).isSome_eq, ← l]
    exact h _ (I.tok _)
  · subst ey
    cases (show u = Value.ref b from ry)
    obtain ⟨z, hd, xs, rel, dd⟩ := dt_rd I.hok e
    refine wpAny_notIn_heap (tupleKind_room_in1 hu) (key_of I.hok eb) hd dd ?_
    have q := (rel.val k).isSome_eq
    rw [Option.isSome_map] at q
    rw [← q, ← l]
    exact h _ (I.tok _)
theorem d_write {h' : Heap} {t' : Nat} {ob : HO} (I : Inv X pins σ H s) (mu : Mut (H a)) (hs : Heap.SameBut a s.heap h') (he : ∃ q, h'.get? a = some q) (new : ObjOk X.prog X.w (upd H a ob) h' a ob) :
    Inv X pins σ (upd H a ob) { s with heap := h', toks := t' } :=
  I.write (x := a) (e := a) mu (.inl rfl) (fun b q hb z => (hs.2 b hb).trans z) he new
theorem dk_new {P : Program} {w : World} {H' : Hp} {h' : Heap} {kvs : List (Key × V)} {vs : List (Key × Value)} (z : kvs.length ≤ sizeLine) (hd : (a == sysModules) = false) (rel : KV kvs vs) (dd : h'.DictOf (mixKind P w) a vs) :
    ObjOk P w H' h' a (.dK kvs) := ⟨z, hd, vs, rel, dd⟩
theorem d_setItem {H' : Hp} {Q : Unit → Shared → Prop} (hu : A.units + 1 < cLine) (I : Inv X pins σ H s) (g : DPut H a y v H') (ry : RelV y u) (rv : RelV v r) (h : ∀ s', Inv X pins σ H' s' → Q () s') :
    wpAny (model X.prog X.w) A (setItem (.ref a) u r) Q E s := by
  rcases g with ⟨kvs, k, e, ey, l, eH⟩ | ⟨kvs, k, b, e, ey, eb, l, eH⟩
  · subst ey eH
    obtain ⟨z, hd, vs, rel, dd⟩ := dk_of I.hok e
    have hz : vs.length ≤ sizeLine := by rw [← rel.length]; exact z
    have hl : (putK kvs k v).length ≤ sizeLine := by have := length_putK kvs k v; omega
    refine wpAny_setItem_pairs (hsz := hz) (kV_is ry) dd fun h' dd' hs => h _ ?_
    have he : ∃ q, h'.get? a = some q := let ⟨q, _, _, hq, _⟩ := dd'; ⟨q, hq⟩
    exact d_write I (by rw [e]; exact True.intro) hs he (dk_new hl hd (rel.put k rv) dd')
  · subst ey eH
    cases (show u = Value.ref b from ry)
    obtain ⟨z, hd, xs, rel, dd⟩ := dt_of I.hok e
    have hz : xs.length ≤ sizeLine := by rw [← Paired.length rel]; exact z
    have hl : (putK kvs k v).length ≤ sizeLine := by have := length_putK kvs k v; omega
    refine wpAny_setItem_heap (hsz := hz) (tupleKind_room_in1 hu) (key_of I.hok eb) dd fun h' dd' hs => h _ ?_
    obtain ⟨q, es, ep, hq, h2, h3, h4, _, h5⟩ := dd'
    refine d_write I (by rw [e]; exact True.intro) hs ⟨q, hq⟩ ⟨hl, hd, _, (rel.put k eb rv).keeps fun c ys ec => ?_, q, es, ep, hq, h2, h3, h4, h5⟩
    rw [upd_ne (ne_of ec e (fun z => nomatch z))]
    exact ec
end
section
variable {X : Cx} {pins : List (Addr × Obj)} {σ : St} {H : Hp} {s : Shared} {a : Addr} {kvs : List (Key × V)} {k : Key} {u : Value} {A : Around} {E : Value → Shared → Prop}
end
theorem dict_typeIs {X : Cx} {pins : List (Addr × Obj)} {σ : St} {H : Hp} {s : Shared} {a : Addr} {y : V} {o : Option V} (I : Inv X pins σ H s) (g : DGet H a y o) : s.TypeIs (.ref a) "dict" := by
  rcases g with ⟨kvs, k, e, _, _⟩ | ⟨kvs, k, b, e, _, _, _⟩
  · obtain ⟨_, _, vs, _, dd⟩ := dk_rd I.hok e
    exact dd.typeIs
  · obtain ⟨_, _, xs, _, dd⟩ := dt_rd I.hok e
    exact dd.typeIs
section
variable {X : Cx} {o i e value : Expr} {pos pos' tpos : Pos} {td ty tv : TE}
end
theorem dt_empty {P : Program} {w : World} {H : Hp} (h : Heap) (hb : sysModules < h.objs.size) : ObjOk P w H (h.push { cls := .type "dict", data := .dict #[] }) h.objs.size (.dT []) :=
  ⟨Nat.zero_le _, beq_eq_false_iff_ne.mpr (Ne.symm (Nat.ne_of_lt hb)), [], .nil, _, #[], 0, Heap.get?_push_size _ rfl, ⟨rfl, rfl, rfl⟩, rfl, rfl, List.nodup_nil⟩
noncomputable def tDNewT : TE := fun _ H Q => ∀ p, H p = none → Q (.ref p) (upd H p (.dT []))
section
variable {X : Cx} {pos : Pos}
theorem pe_dnewT : PE X (.Dict [] [] pos) tDNewT := fun pins s σ H Q I h =>
  wpAny_Dict_empty ⟨.ref s.heap.objs.size, _, I.laid (a := s.heap.objs.size) (o := .dT []) (t' := s.toks) (fun _ _ q => Heap.get?_push_of_some _ q) (Nat.le_refl _) (dt_empty s.heap I.big), rfl, h _ (I.hok.fresh (Nat.le_refl _))⟩
end
section
variable {X : Cx} {pins : List (Addr × Obj)} {σ : St} {H : Hp} {s : Shared} {a : Addr} {y d : V} {u r : Value} {o : Option V} {A : Around} {E : Value → Shared → Prop}
end
section
variable {X : Cx} {o e f : Expr} {apos cpos : Pos} {td ty tx : TE}
end
section
variable {X : Cx} {pins : List (Addr × Obj)} {σ : St} {H : Hp} {s : Shared} {a : Addr} {kvs : List (Key × V)} {A : Around} {E : Value → Shared → Prop}
end
section
variable {X : Cx} {pins : List (Addr × Obj)} {σ : St} {H : Hp} {s : Shared} {a : Addr} {y : V} {u : Value} {A : Around} {E : Value → Shared → Prop}
end
end L2
namespace Att
open PySem PySem.W PySem.Calls PyProof.Rows
theorem ints_of_wellAll {P : Params} {h : Heap} : ∀ (ns : List Int) (vs : List Value), WellAll P h vs (ns.map WData.int) → IntsAre vs ns := by
  intro ns
  induction ns with
  | nil =>
    intro vs w
    rw [List.map_nil] at w
    cases w
    exact .nil
  | cons n ns ih =>
    intro vs w
    rw [List.map_cons] at w
    cases w with
    | cons a b =>
      cases a
      exact .cons _ _ (ih _ b)

theorem script_of {l : OpenLaw} {n : Nat} (hn : l.most = some n) {P : Params} {h : Heap} {args : List WData} {vals : List Value}
    (hpre : l.row.toRowW.claim.pre args = true) (hwl : WellAll P h vals args) :
    ∃ a vs ns, vals = [Value.ref a] ∧ args = [WData.list (ns.map WData.int)] ∧ h.get? a = some { cls := .type "list", data := .seq vs.toArray } ∧ IntsAre vs ns ∧ ns.length ≤ n := by
  have hsh : WShape.hasAll [] args [.list .int] = true := (pre_splitW hpre).1
  have hc : l.pre.holds [] { args := args } = true := (pre_splitW hpre).2
  obtain ⟨d, r, rfl, h1, h2⟩ := hasAllW_cons hsh
  obtain rfl := hasAllW_nil h2
  obtain ⟨xs, rfl, h3⟩ := hasW_list h1
  obtain ⟨ns, rfl⟩ := items_int h3
  have hlen : ns.length ≤ n := by
    unfold OpenLaw.pre at hc
    have h4 : (WTm.not (.lt (.lit (.int (n : Int))) (.len (.arg 0)))).holds [] { args := [.list (ns.map .int)] } = true := by
      have h4 := (holds_andW hc).1
      rw [hn] at h4
      exact h4
    have h5 := condW_of h4 (w_not (w_lt w_lit (w_len_list (w_arg rfl))))
    rw [List.length_map] at h5
    refine Nat.le_of_not_lt fun q => ?_
    have q' : (n : Int) < ((ns.length : Nat) : Int) := by omega
    first
      | (rw [decide_eq_true q'] at h5; exact absurd h5 (by decide))
      | (simp at h5; omega)
  cases hwl with
  | cons w1 w2 =>
    cases w2
    cases w1 with
    | list ho hall => exact ⟨_, _, ns, rfl, rfl, ho, ints_of_wellAll ns _ hall, hlen⟩

theorem post_true (l : OpenLaw) (args : List WData) : l.row.toRowW.claim.post args (.bool true) args = true :=
  postW_of (r := l.row.toRowW) (X := (true == true))
    (show WShape.has [] (.bool true) .bool = true by first | rfl | decide | simp [WShape.has, WShape.arms, WShape.armsAll])
    (show (WTm.eq .res (.lit (.bool true))).value [] { args := args, res := some (.bool true), after := args } = some (.bool (true == true)) from w_eq_bool (w_res rfl) w_lit) rfl

theorem attach_call {l : OpenLaw} {n : Nat} {q : Program} {loose : List Str} {XP : (Str → Option Value) → Heap → Prop} {YP : World → Heap → Prop} {d : DefRec}
    (hn : l.most = some n) (hdf : d.params.defaults = [])
    (call : ∀ (w : World) (s₀ s₁ : Shared) (mg mb : Str → Option Value) (fa : Addr) (o : Obj) (pm cd doc : Value) (a : Addr) (vs : List Value) (ns : List Int),
      Ground q loose [] XP w s₀ mg mb s₁.heap → YP w s₁.heap →
      s₁.heap.get? fa = some o → o.data = .func (docDef d.name d.params d.body d.scope pm cd doc) → s₁.heap.CodeRec cd d.name → mg d.name = some (.ref fa) →
      s₁.heap.get? a = some { cls := .type "list", data := .seq vs.toArray } → IntsAre vs ns → ns.length ≤ n → s₁.gens = #[] →
      codeAny (model l.prog w) callerA (.call (.ref fa) ⟨[.ref a], []⟩) (fun r s' => r = .ok (.ret (.bool true)) ∧ OldK s₁.heap s'.heap ∧ s'.os = s₁.os ∧ AllBare s'.gens) s₁) :
    WalkO q loose XP YP l.row.toRowW d [] (fun f vs => PySem.call f vs) := by
  intro w s₀ s₁ mg mb G Y fa o pm cd doc dV kV ho hd hcd hD hmg hg args vals as hpre hlay hrd hwl hlo
  obtain rfl : dV = .none := Dflts.none hD hdf
  obtain rfl : kV = .none := Dflts.noKw hD
  obtain ⟨a, vs, ns, rfl, rfl, hobj, hints, hlen⟩ := script_of hn hpre hwl
  refine enter_call (codeAny_mono (call w s₀ s₁ mg mb fa o pm cd doc a vs ns G Y ho (fd_plain hd) hcd hmg hobj hints hlen hg) fun r s' hq => ?_)
  obtain ⟨rfl, h2, h3, h4⟩ := hq
  exact ⟨.inl ⟨.bool true, .bool true, [], rfl, fun _ => rfl, .bool true, post_true l _, fun _ => ⟨List.Pairwise.nil, fun _ hm => (nomatch hm)⟩⟩, h2, h3, h4⟩

section
variable {prog : Program} {w : World} {A : Around} {E : Value → Shared → Prop} {s : Shared} {K : Frag}
end
end Att
namespace L2
open PySem PySem.Spec PyProof.Rows
theorem vals_ints : ∀ {vs : List Value} {ns : List Int}, IntsAre vs ns → Vals (ns.map V.int) vs
  | _, _, .nil => .nil
  | _, _, .cons n t h => .cons ⟨t, rfl⟩ (vals_ints h)

noncomputable def Only (H : Hp) : Prop := ∀ b, H b = none ∨ ∃ o xs, H b = some (.frz o (.lst xs))

theorem law_call {P : Program} {w : World} {K : PySem.W.Frag} {mg mb : Str → Option Value} {CX : CXT} {k : Nat} {fa a : Addr} {fd : FuncData} {x : Str} {sp : Sp} {s₁ : Shared} {vs : List Value} {ns : List Int}
    (KX : K.In s₁.heap) (hns : s₁.heap.Ns mainGlobals mg) (hb : s₁.heap.Ns builtinsNs mb) (hbb : ∀ x : Str, x ≠ "__name__" → mb x = bootBuiltins x) (hlim : s₁.heap.NoLimit) (hg : s₁.gens = #[])
    (ha : s₁.heap.get? a = some { cls := .type "list", data := .seq vs.toArray }) (hi : IntsAre vs ns) (hl : ns.length ≤ sizeLine) (hr : Room k callerA)
    (F : ∀ base : Heap, K.In base → base.Ns mainGlobals mg → FnOk P w K mg base CX k fa fd [x] sp) (hbind : ∀ (s : Shared) (u : Value), BindsTo s fd ⟨[u], []⟩ [(x, u)])
    (hsp : ∀ H : Hp, Only H → SqL K H a (ns.map V.int) → sp [.ref a] H (fun v _ => v = .bl true) fun _ _ _ => False)
    (hCX : ∀ H e s', CX [] H s₁ (fun _ _ _ => False) e s' → False) :
    codeAny (model P w) callerA (.call (.ref fa) ⟨[.ref a], []⟩) (fun r s' => r = .ok (.ret (.bool true)) ∧ OldK s₁.heap s'.heap ∧ s'.os = s₁.os ∧ AllBare s'.gens) s₁ := by
  have rv := vals_ints hi
  have lenV := hi.length
  -- from an abstract heap in which nothing but the script may be tracked
  have core : ∀ H : Hp, Only H → SqL K H a (ns.map V.int) → HOk P w H s₁.heap → (∀ b, H b ≠ none → b = a) → (H a ≠ none → K.lookup a = none) →
      codeAny (model P w) callerA (.call (.ref fa) ⟨[.ref a], []⟩) (fun r s' => r = .ok (.ret (.bool true)) ∧ OldK s₁.heap s'.heap ∧ s'.os = s₁.os ∧ AllBare s'.gens) s₁ := by
    intro H hO hS hok hA hK
    have base_of : ∀ {b : Addr} {o : Obj}, s₁.heap.get? b = some o → H b = none → (hidT s₁.heap H).get? b = some o := fun e n => hidT_get e n
    have noA : ∀ {b : Addr} {o : Obj} {es : Array DictEntry} {ep : Nat}, s₁.heap.get? b = some o → o.data = .dict es ep → H b = none := fun {b o es ep} e d => by
      cases q : H b with
      | none => rfl
      | some u =>
        have e' : b = a := hA b (by rw [q]; simp)
        subst e'
        rw [ha] at e; cases e
        have d' : Data.seq vs.toArray _ = Data.dict es ep := d
        cases d'
    have nsK : ∀ {b : Addr} {m : Str → Option Value}, s₁.heap.Ns b m → (hidT s₁.heap H).Ns b m := fun {b m} ⟨o, es, ep, e, d, r⟩ => ⟨o, es, ep, base_of e (noA e d), d, r⟩
    have hKb : K.In (hidT s₁.heap H) := fun b o e => base_of (KX b o e) (by
      cases q : H b with
      | none => rfl
      | some u =>
        have e' : b = a := hA b (by rw [q]; simp)
        subst e'
        rw [hK (by rw [q]; simp)] at e; cases e)
    have hM : Mod K mg (hidT s₁.heap H) := ⟨hKb, nsK hns, ⟨mb, nsK hb, hbb⟩, let ⟨mc, h1, h2⟩ := hlim; ⟨mc, nsK h1, h2⟩⟩
    have e0 : Env0 P w K mg (hidT s₁.heap H) callerA [] s₁ H := ⟨rfl, hM, fun b o e => of_hidT e, Nat.le_of_eq (hidT_size _ _), trivial, fun b hb => absurd (show b ∈ ([] : List Addr) from hb) (by simp), hok, .of_eq hg⟩
    refine codeAny_mono ((F _ hKb (nsK hns)).run callerA [] s₁ H ⟨[.ref a], []⟩ [.ref a] [.ref a] _ _ hr e0 (hbind s₁ (.ref a)) (.cons rfl .nil) (hsp H hO hS)) fun r s' h => ?_
    cases r with
    | error e => exact (hCX H e s' h).elim
    | ok fl =>
      cases fl with
      | next => exact False.elim h
      | brk => exact False.elim h
      | cont => exact False.elim h
      | ret u =>
        obtain ⟨v, H', os, bare, un, hok', r', q⟩ := h
        have q' : v = .bl true := q
        subst q'
        obtain rfl : u = Value.bool true := r'
        refine ⟨rfl, OldK.of_keep fun b o e => ?_, os, bare⟩
        cases q : H b with
        | none => exact un.keep b o e q (by intro z; exact absurd (show b ∈ ([] : List Addr) from z) (by simp)) (by simp)
        | some u =>
          rcases hO b with z | ⟨ob, xs, z⟩
          · rw [q] at z; cases z
          · have z2 := un.frzs b ob _ z
            obtain ⟨e1, _⟩ := hok b _ z
            obtain ⟨e2, _⟩ := hok' b _ z2
            rw [e] at e1; cases e1
            exact e2
  cases hk : K.lookup a with
  | some o =>
    -- the script is one of the module's own objects
    have e := KX a o hk
    rw [ha] at e
    cases e
    refine core (fun _ => none) (fun _ => .inl rfl) (.inr ⟨_, vs.toArray, _, hk, rfl, rfl, rfl, by rw [List.size_toArray, lenV]; exact hl, by simpa using rv⟩) (fun b u z => by have z' : (none : Option HO) = some u := z; cases z') (fun b z => absurd rfl z) fun z => absurd rfl z
  | none =>
    refine core (fun b => if b = a then some (.frz { cls := .type "list", data := .seq vs.toArray } (.lst (ns.map V.int))) else none) (fun b => ?_) (.inl (.inr ⟨{ cls := .type "list", data := .seq vs.toArray }, if_pos rfl⟩)) (fun b u z => ?_) (fun b z => ?_) fun _ => hk
    · by_cases hb : b = a
      · exact .inr ⟨_, _, if_pos hb⟩
      · exact .inl (if_neg hb)
    · by_cases hb : b = a
      · have z' := (if_pos hb).symm.trans z
        cases z'
        subst hb
        exact ⟨ha, by rw [List.length_map]; exact hl, vs, _, rv, ha⟩
      · have z' := (if_neg hb).symm.trans z
        cases z'
    · by_cases hb : b = a
      · exact hb
      · exact absurd (if_neg hb) z
end L2
namespace L2
open PySem PySem.Spec PyProof.Rows
theorem walk_of {l : PySem.W.OpenLaw} {n k : Nat} {q : Program} {loose : List Str} {XP : (Str → Option Value) → Heap → Prop} {YP : World → Heap → Prop} {d : DefRec} {K : Params → PySem.W.Frag} {CX : World → CXT} {sp : World → Sp} {x : Str}
    (hn : l.most = some n) (hn2 : n ≤ sizeLine) (hdf : d.params.defaults = []) (hr : Room k callerA)
    (hY : ∀ (w : World) (h : Heap), YP w h → (K w.params).In h)
    (F : ∀ (w : World) (mg : Str → Option Value) (fa : Addr) (h : Heap), (K w.params).In h → h.Ns mainGlobals mg → mg d.name = some (.ref fa) →
      ∃ fd : FuncData, (∀ (s : Shared) (u : Value), BindsTo s fd ⟨[u], []⟩ [(x, u)]) ∧
        ∀ base : Heap, (K w.params).In base → base.Ns mainGlobals mg → FnOk l.prog w (K w.params) mg base (CX w) k fa fd [x] (sp w))
    (hsp : ∀ (w : World) (H : Hp) (a : Addr) (ns : List Int), ns.length ≤ n → Only H → SqL (K w.params) H a (ns.map V.int) → sp w [.ref a] H (fun v _ => v = .bl true) fun _ _ _ => False)
    (hCX : ∀ (w : World) (H : Hp) (s : Shared) (e : Value) (s' : Shared), CX w [] H s (fun _ _ _ => False) e s' → False) :
    PySem.W.WalkO q loose XP YP l.row.toRowW d [] (fun f vs => PySem.call f vs) := by
  refine Att.attach_call hn hdf fun w s₀ s₁ mg mb fa o pm cd doc a vs ns G Y ho hd hcd hmg hobj hints hlen hg => ?_
  have KX := hY w _ Y
  obtain ⟨fd, hb, hF⟩ := F w mg fa _ KX G.T.g hmg
  exact law_call KX G.T.g G.T.b G.T.builtins G.T.nolimit hg hobj hints (Nat.le_trans hlen hn2) hr hF hb (fun H hO hS => hsp w H a ns hlen hO hS) fun H e s' => hCX w H s₁ e s'
theorem walk_ofK {l : PySem.W.OpenLaw} {n k : Nat} {q : Program} {loose : List Str} {XP : (Str → Option Value) → Heap → Prop} {YP : World → Heap → Prop} {d : DefRec} {K : Params → PySem.W.Frag} {CX : CXT} {sp : PySem.W.Frag → Sp} {x : Str}
    (hn : l.most = some n) (hn2 : n ≤ sizeLine) (hdf : d.params.defaults = []) (hr : Room k callerA)
    (hY : ∀ (w : World) (h : Heap), YP w h → (K w.params).In h)
    (F : ∀ (w : World) (mg : Str → Option Value) (fa : Addr) (h : Heap), (K w.params).In h → h.Ns mainGlobals mg → mg d.name = some (.ref fa) →
      ∃ fd : FuncData, (∀ (s : Shared) (u : Value), BindsTo s fd ⟨[u], []⟩ [(x, u)]) ∧
        ∀ base : Heap, (K w.params).In base → base.Ns mainGlobals mg → FnOk l.prog w (K w.params) mg base CX k fa fd [x] (sp (K w.params)))
    (hsp : ∀ (K : PySem.W.Frag) (H : Hp) (a : Addr) (ns : List Int), ns.length ≤ n → Only H → SqL K H a (ns.map V.int) → sp K [.ref a] H (fun v _ => v = .bl true) fun _ _ _ => False)
    (hCX : ∀ (H : Hp) (s : Shared) (e : Value) (s' : Shared), CX [] H s (fun _ _ _ => False) e s' → False) :
    PySem.W.WalkO q loose XP YP l.row.toRowW d [] (fun f vs => PySem.call f vs) :=
  walk_of (K := K) (CX := fun _ => CX) (sp := fun w => sp (K w.params)) hn hn2 hdf hr hY F (fun w H a ns h1 h2 h3 => hsp (K w.params) H a ns h1 h2 h3) fun _ H s e s' => hCX H s e s'
end L2
namespace L2
open PySem PySem.Spec PyProof.Rows
noncomputable def defArgs (s : Stmt) : Arguments := match s with
  | .FunctionDef _ a _ _ _ _ _ _ _ _ => a
  | _ => { posonlyargs := [], args := [], vararg := none, kwonlyargs := [], kw_defaults := [], kwarg := none, defaults := [] }
noncomputable def defBody (s : Stmt) : List Stmt := match s with
  | .FunctionDef _ _ b _ _ _ _ _ _ _ => b
  | _ => []
noncomputable def defScope (s : Stmt) : Scope := match s with
  | .FunctionDef _ _ _ _ _ _ sc _ _ _ => sc
  | _ => { kind := .function, names := [], isGenerator := false, isCoroutine := false }

noncomputable abbrev CX0 : CXT := fun _ _ _ _ _ _ => False
noncomputable abbrev E0 : XK := fun _ _ _ => False
theorem pass0 {X : Cx} : Passes CX0 X E0 := fun _ _ _ _ _ _ _ h => h.elim

structure Fun (K : PySem.W.Frag) (x qual : Str) (st : Stmt) (f : Addr) (fd : FuncData) : Prop where
  ex : ∃ (oc : Value) (od : Option Addr) (kV doc pm : Value) (an : Option Addr) (cdv ct : Value) (osl : Array (Option Value)),
    fd = PySem.W.fnOf x qual (defArgs st) (defBody st) (defScope st) .none kV doc pm an cdv ct ∧ K.lookup f = some ⟨oc, od, .func fd, osl⟩ ∧ PySem.W.codeIn K cdv qual = true
  kp : PySem.W.keepIn K (.ref f) = true
section
variable {P : Program} {w : World} {K : PySem.W.Frag} {mg : Str → Option Value} {base : Heap}
theorem Fun.ok {x qual : Str} {st : Stmt} {f : Addr} {fd : FuncData} {N ps : List Str} {k : Nat} {sp : Sp} (F : Fun K x qual st f fd) (S : FnScope N ps (defScope st)) (len : ∀ vs H Q E, sp vs H Q E → vs.length = ps.length)
    (hbody : ∀ (cdv : Value) (A : Around) (outer : List Env) (s : Shared) (H : Hp) (vs : List V) (Q : VK) (E : XK), Room k (A.deeper (envOfC qual (defScope st) s.heap.objs.size f cdv)) → sp vs H Q E →
      ∃ t, PSs (cxOf CX0 P w K mg base N qual (defScope st) f cdv A outer s H E).nox (defBody st) t ∧ t { nx := fun _ H' => Q .non H', rt := Q } (start N vs) H) : FnOk P w K mg base CX0 (k + 1) f fd ps sp := by
  obtain ⟨oc, od, kV, doc, pm, an, cdv, ct, osl, rfl, lk, hcd⟩ := F.ex
  refine fn_of lk hcd S len fun A outer s H vs Q E hr hsp => ?_
  obtain ⟨t, h, q⟩ := hbody cdv A outer s H vs Q E hr hsp
  exact ⟨t, h.nox, q⟩
theorem Fun.binds {x qual : Str} {st : Stmt} {f : Addr} {fd : FuncData} {ps : List Str} (F : Fun K x qual st f fd)
    (h : ∀ (kV doc pm : Value) (an : Option Addr) (cdv ct : Value) (us : List Value), us.length = ps.length → bindArgs (PySem.W.fnOf x qual (defArgs st) (defBody st) (defScope st) .none kV doc pm an cdv ct) ⟨us, []⟩ = pure (ps.zip us)) : Binds K fd ps [] := by
  obtain ⟨oc, od, kV, doc, pm, an, cdv, ct, osl, rfl, lk, hcd⟩ := F.ex
  exact .all (h kV doc pm an cdv ct)
theorem fun_mk {x qual : Str} {st : Stmt} {f : Addr} {oc : Value} {od an : Option Addr} {osl : Array (Option Value)} {kV doc pm cdv ct : Value} (l : K.lookup f = some ⟨oc, od, .func (PySem.W.fnOf x qual (defArgs st) (defBody st) (defScope st) .none kV doc pm an cdv ct), osl⟩)
    (c : PySem.W.codeIn K cdv qual = true) (k : PySem.W.keepIn K (.ref f) = true) : Fun K x qual st f (PySem.W.fnOf x qual (defArgs st) (defBody st) (defScope st) .none kV doc pm an cdv ct) := ⟨⟨oc, od, kV, doc, pm, an, cdv, ct, osl, rfl, l, c⟩, k⟩
end
section
variable {X : Cx}
theorem pv (i : Nat) {x : Str} {pos : Pos} (hN : X.N[i]? = some x := by rfl) (hv : Vis X.env.scope x := by first | exact Or.inl rfl | exact Or.inr (Or.inl rfl) | exact Or.inr (Or.inr rfl)) (hd : (x == ("__debug__" : Str)) = false := by decide)
    (hcd : (x == ("__classdict__" : Str)) = false := by decide) : PE X (.Name x pos) (tVar i) := pe_var hN hv hd hcd
end
noncomputable def Same (H H' : Hp) : Prop := ∀ b o, H b = some o → H' b = some o
theorem Same.refl (H : Hp) : Same H H := fun _ _ h => h
theorem Same.trans {H H1 H2 : Hp} (a : Same H H1) (b : Same H1 H2) : Same H H2 := fun c o h => b c o (a c o h)
theorem Same.free {H H' : Hp} (e : Same H H') {l : Addr} (h : H' l = Option.none) : H l = Option.none := by
  cases q : H l with
  | none => rfl
  | some o =>
    rw [e l o q] at h
    cases h
theorem Same.seq {K : PySem.W.Frag} {H H' : Hp} {a : Addr} {xs : List V} (e : Same H H') (h : SqL K H a xs) : SqL K H' a xs := by
  rcases h with (h | ⟨o, h⟩) | h
  · exact .inl (.inl (e _ _ h))
  · exact .inl (.inr ⟨o, e _ _ h⟩)
  · exact .inr h

section
variable {κ : Type} [DecidableEq κ]
end
end L2
set_option Elab.async false
set_option linter.all false
set_option maxRecDepth 100000
namespace L2
open PySem PySem.Spec PyProof.Rows
section
variable {X : Cx}
theorem PE.mono {e : Expr} {t t' : TE} (h : PE X e t) (i : ∀ σ H Q, t' σ H Q → t σ H Q) : PE X e t' := fun pins s σ H Q I q => h pins s σ H Q I (i σ H Q q)
theorem PT.mono {e : Expr} {t t' : TT} (h : PT X e t) (i : ∀ σ H Q, t' σ H Q → t σ H Q) : PT X e t' := fun pins s σ H Q I q => h pins s σ H Q I (i σ H Q q)
theorem PW.mono {e : Expr} {t t' : TT} (h : PW X e t) (i : ∀ σ H Q, t' σ H Q → t σ H Q) : PW X e t' := fun wh pins s σ H Q I q => h wh pins s σ H Q I (i σ H Q q)
theorem PA.mono {e : List Expr} {t t' : TA} (h : PA X e t) (i : ∀ σ H Q, t' σ H Q → t σ H Q) : PA X e t' := fun pos pins s σ H Q I q => h pos pins s σ H Q I (i σ H Q q)
theorem PS.mono {e : Stmt} {t t' : TS} (h : PS X e t) (i : ∀ D σ H, t' D σ H → t D σ H) : PS X e t' := fun pins s σ H D I q => h pins s σ H D I (i D σ H q)
theorem PSs.mono {e : List Stmt} {t t' : TS} (h : PSs X e t) (i : ∀ D σ H, t' D σ H → t D σ H) : PSs X e t' := fun pins s σ H D I q => h pins s σ H D I (i D σ H q)
theorem PG.mono {e : Expr} {t t' : TG} (h : PG X e t) (i : ∀ v σ H Q, t' v σ H Q → t v σ H Q) : PG X e t' := fun pins s σ H v u Q I r q => h pins s σ H v u Q I r (i v σ H Q q)
theorem PGs.mono {e : List Expr} {t t' : TGs} (h : PGs X e t) (i : ∀ v σ H Q, t' v σ H Q → t v σ H Q) : PGs X e t' := fun pins s σ H v u Q I r q => h pins s σ H v u Q I r (i v σ H Q q)
theorem PI.mono {g e : Expr} {t t' : TI} (h : PI X g e t) (i : ∀ σ H Q, t' σ H Q → t σ H Q) : PI X g e t' := fun pins s σ H Q I q => h pins s σ H Q I (i σ H Q q)
end
theorem sizeLine_ge : 1000000 ≤ sizeLine := by decide
end L2
set_option linter.all false
set_option maxRecDepth 100000
namespace L3
open PySem L2
inductive D where
  | non | bl (b : Bool) | int (i : Int) | str (x : Str)
  | tup (xs : List D) | lst (xs : List D)
  | dK (ks : List Key) (xs : List D) | dT (ks : List (List Key)) (xs : List D)
  | obj (c : Str) (ns : List Str) (xs : List D)
  | scr (xs : List D)
  | ty (n : String)

mutual
/-- the value v, in the heap F, is the tree d -/
noncomputable def Rep (K : PySem.W.Frag) (F : Hp) : D → V → Prop
  | .non, v => v = .non
  | .bl b, v => v = .bl b
  | .int i, v => v = .int i
  | .str x, v => v = .str x
  | .tup xs, v => ∃ a vs, v = .ref a ∧ F a = some (.tup vs) ∧ Reps K F xs vs
  | .lst xs, v => ∃ a vs, v = .ref a ∧ F a = some (.lst vs) ∧ Reps K F xs vs
  | .dK ks xs, v => ∃ a vs, v = .ref a ∧ F a = some (.dK (ks.zip vs)) ∧ ks.length = vs.length ∧ Reps K F xs vs
  | .dT ks xs, v => ∃ a vs, v = .ref a ∧ F a = some (.dT (ks.zip vs)) ∧ ks.length = vs.length ∧ Reps K F xs vs
  | .obj c ns xs, v => ∃ a C dx vs, v = .ref a ∧ PySem.W.nsIn K PySem.mainGlobals c = some (some (.ref C)) ∧ F a = some (.ins C dx (ns.zip vs)) ∧ ns.length = vs.length ∧ Reps K F xs vs
  | .scr xs, v => ∃ a vs, v = .ref a ∧ SqL K F a vs ∧ Reps K F xs vs
  | .ty n, v => v = .ty n
noncomputable def Reps (K : PySem.W.Frag) (F : Hp) : List D → List V → Prop
  | [], vs => vs = []
  | d :: ds, vs => ∃ v r, vs = v :: r ∧ Rep K F d v ∧ Reps K F ds r
end
section
variable {K : PySem.W.Frag} {F F' H H' H0 F0 : Hp}
mutual
theorem Rep.mono (e : Same F F') : ∀ {d : D} {v : V}, Rep K F d v → Rep K F' d v
  | .non, _, h => h
  | .bl _, _, h => h
  | .int _, _, h => h
  | .str _, _, h => h
  | .ty _, _, h => by rw [Rep] at h ⊢; exact h
  | .tup _, _, h => by
    rw [Rep] at h ⊢
    obtain ⟨a, vs, h1, h2, h3⟩ := h
    exact ⟨a, vs, h1, e _ _ h2, Reps.mono e h3⟩
  | .lst _, _, h => by
    rw [Rep] at h ⊢
    obtain ⟨a, vs, h1, h2, h3⟩ := h
    exact ⟨a, vs, h1, e _ _ h2, Reps.mono e h3⟩
  | .dK _ _, _, h => by
    rw [Rep] at h ⊢
    obtain ⟨a, vs, h1, h2, h3, h4⟩ := h
    exact ⟨a, vs, h1, e _ _ h2, h3, Reps.mono e h4⟩
  | .dT _ _, _, h => by
    rw [Rep] at h ⊢
    obtain ⟨a, vs, h1, h2, h3, h4⟩ := h
    exact ⟨a, vs, h1, e _ _ h2, h3, Reps.mono e h4⟩
  | .obj _ _ _, _, h => by
    rw [Rep] at h ⊢
    obtain ⟨a, C, dx, vs, h1, hc, h2, h3, h4⟩ := h
    exact ⟨a, C, dx, vs, h1, hc, e _ _ h2, h3, Reps.mono e h4⟩
  | .scr _, _, h => by
    rw [Rep] at h ⊢
    obtain ⟨a, vs, h1, h2, h3⟩ := h
    exact ⟨a, vs, h1, Same.seq e h2, Reps.mono e h3⟩
theorem Reps.mono (e : Same F F') : ∀ {ds : List D} {vs : List V}, Reps K F ds vs → Reps K F' ds vs
  | [], _, h => by rw [Reps] at h ⊢; exact h
  | _ :: _, _, h => by
    rw [Reps] at h ⊢
    obtain ⟨v, r, h1, h2, h3⟩ := h
    exact ⟨v, r, h1, Rep.mono e h2, Reps.mono e h3⟩
end
theorem Reps.nil : Reps K F [] [] := by rw [Reps]
theorem Reps.cons {d : D} {ds : List D} {v : V} {vs : List V} (h : Rep K F d v) (t : Reps K F ds vs) : Reps K F (d :: ds) (v :: vs) := by rw [Reps]; exact ⟨v, vs, rfl, h, t⟩
theorem Reps.uncons {d : D} {ds : List D} {vs : List V} (h : Reps K F (d :: ds) vs) : ∃ v r, vs = v :: r ∧ Rep K F d v ∧ Reps K F ds r := by rw [Reps] at h; exact h
theorem Reps.unnil {vs : List V} (h : Reps K F [] vs) : vs = [] := by rw [Reps] at h; exact h
theorem Reps.length : ∀ {ds : List D} {vs : List V}, Reps K F ds vs → ds.length = vs.length
  | [], _, h => by rw [h.unnil]; rfl
  | _ :: _, _, h => by obtain ⟨v, r, rfl, _, t⟩ := h.uncons; simp [Reps.length t]
theorem Reps.get : ∀ {ds : List D} {vs : List V} {i : Nat} {d : D}, Reps K F ds vs → ds[i]? = some d → ∃ v, vs[i]? = some v ∧ Rep K F d v
  | [], _, _, _, _, e => by simp at e
  | _ :: _, _, 0, _, h, e => by
    obtain ⟨v, r, rfl, h1, _⟩ := h.uncons
    simp at e; subst e; exact ⟨v, rfl, h1⟩
  | _ :: _, _, i + 1, _, h, e => by
    obtain ⟨v, r, rfl, _, t⟩ := h.uncons
    obtain ⟨u, e1, h1⟩ := Reps.get (i := i) t (by simpa using e)
    exact ⟨u, by simpa using e1, h1⟩
theorem Reps.app : ∀ {ds es : List D} {vs us : List V}, Reps K F ds vs → Reps K F es us → Reps K F (ds ++ es) (vs ++ us)
  | [], _, _, _, h, g => by rw [h.unnil]; exact g
  | _ :: _, _, _, _, h, g => by obtain ⟨v, r, rfl, h1, t⟩ := h.uncons; exact .cons h1 (Reps.app t g)
theorem Reps.set {d : D} {v : V} (r : Rep K F d v) : ∀ {ds : List D} {vs : List V} (i : Nat), Reps K F ds vs → Reps K F (ds.set i d) (vs.set i v)
  | [], _, _, h => by rw [h.unnil]; exact .nil
  | _ :: _, _, 0, h => by obtain ⟨u, t, rfl, _, h2⟩ := h.uncons; exact .cons r h2
  | _ :: _, _, i + 1, h => by obtain ⟨u, t, rfl, h1, h2⟩ := h.uncons; exact .cons h1 (Reps.set r i h2)
theorem Reps.drop : ∀ {ds : List D} {vs : List V} (n : Nat), Reps K F ds vs → Reps K F (ds.drop n) (vs.drop n)
  | _, _, 0, h => h
  | [], _, _ + 1, h => by rw [h.unnil]; exact .nil
  | _ :: _, _, n + 1, h => by obtain ⟨u, t, rfl, _, h2⟩ := h.uncons; exact Reps.drop n h2
theorem Reps.take : ∀ {ds : List D} {vs : List V} (n : Nat), Reps K F ds vs → Reps K F (ds.take n) (vs.take n)
  | _, _, 0, _ => .nil
  | [], _, _ + 1, h => by rw [h.unnil]; exact .nil
  | _ :: _, _, n + 1, h => by obtain ⟨u, t, rfl, h1, h2⟩ := h.uncons; exact .cons h1 (Reps.take n h2)
theorem Reps.rep {ds : List D} {vs : List V} (h : Reps K F ds vs) : ∀ k : Nat, Reps K F (List.replicate k ds).flatten (List.replicate k vs).flatten
  | 0 => .nil
  | k + 1 => by rw [List.replicate_succ, List.replicate_succ, List.flatten_cons, List.flatten_cons]; exact .app h (Reps.rep h k)

noncomputable def Cell (K : PySem.W.Frag) (F H : Hp) (a : Addr) : D → Prop
  | .lst xs => ∃ vs, H a = some (.lst vs) ∧ Reps K F xs vs
  | .dK ks xs => ∃ vs, H a = some (.dK (ks.zip vs)) ∧ ks.length = vs.length ∧ Reps K F xs vs
  | .dT ks xs => ∃ vs, H a = some (.dT (ks.zip vs)) ∧ ks.length = vs.length ∧ Reps K F xs vs
  | .obj c ns xs => ∃ C dx vs, PySem.W.nsIn K PySem.mainGlobals c = some (some (.ref C)) ∧ H a = some (.ins C dx (ns.zip vs)) ∧ ns.length = vs.length ∧ Reps K F xs vs
  | _ => False
theorem Cell.some {a : Addr} {d : D} (h : Cell K F H a d) : ∃ o, H a = some o := by
  cases d <;> first | exact h.elim | (obtain ⟨vs, h, _⟩ := h; exact ⟨_, h⟩) | (obtain ⟨C, dx, vs, _, h, _⟩ := h; exact ⟨_, h⟩)
theorem Cell.mono {a : Addr} {d : D} (h : Cell K F H a d) (e : Same F F') (k : ∀ o, H a = .some o → H' a = .some o) : Cell K F' H' a d := by
  cases d with
  | lst xs => obtain ⟨vs, h1, h2⟩ := h; exact ⟨vs, k _ h1, h2.mono e⟩
  | dK ks xs => obtain ⟨vs, h1, h2, h3⟩ := h; exact ⟨vs, k _ h1, h2, h3.mono e⟩
  | dT ks xs => obtain ⟨vs, h1, h2, h3⟩ := h; exact ⟨vs, k _ h1, h2, h3.mono e⟩
  | obj c ns xs => obtain ⟨C, dx, vs, hc, h1, h2, h3⟩ := h; exact ⟨C, dx, vs, hc, k _ h1, h2, h3.mono e⟩
  | _ => exact h.elim
theorem Cell.rep {a : Addr} {d : D} (h : Cell K F H a d) (e : Same F F') (k : ∀ o, H a = .some o → F' a = .some o) : Rep K F' d (.ref a) := by
  cases d with
  | lst xs => obtain ⟨vs, h1, h2⟩ := h; rw [Rep]; exact ⟨a, vs, rfl, k _ h1, h2.mono e⟩
  | dK ks xs => obtain ⟨vs, h1, h2, h3⟩ := h; rw [Rep]; exact ⟨a, vs, rfl, k _ h1, h2, h3.mono e⟩
  | dT ks xs => obtain ⟨vs, h1, h2, h3⟩ := h; rw [Rep]; exact ⟨a, vs, rfl, k _ h1, h2, h3.mono e⟩
  | obj c ns xs => obtain ⟨C, dx, vs, hc, h1, h2, h3⟩ := h; rw [Rep]; exact ⟨a, C, dx, vs, rfl, hc, k _ h1, h2, h3.mono e⟩
  | _ => exact h.elim

noncomputable def RdV (K : PySem.W.Frag) (F H : Hp) (d : D) (v : V) : Prop := Rep K F d v ∨ ∃ a, v = .ref a ∧ Cell K F H a d

structure Step (F H F' H' : Hp) : Prop where
  up : Same F F'
  sub : Same F' H'
  keep : Same H H'
  new : ∀ a o, F' a = some o → F a = some o ∨ H a = none
theorem Step.refl (h : Same F H) : Step F H F H := ⟨.refl _, h, .refl _, fun _ _ e => .inl e⟩
theorem Step.trans {F1 H1 F2 H2 : Hp} (a : Step F H F1 H1) (b : Step F1 H1 F2 H2) : Step F H F2 H2 :=
  ⟨a.up.trans b.up, b.sub, a.keep.trans b.keep, fun c o e => by
    rcases b.new c o e with e1 | e1
    · exact a.new c o e1
    · exact .inr (a.keep.free e1)⟩
theorem Step.unfz {a : Addr} {o : HO} (s : Step F H F' H') (h : H a = some o) (n : F a = none) : F' a = none := by
  cases q : F' a with
  | none => rfl
  | some u =>
    rcases s.new a u q with e | e
    · rw [n] at e; cases e
    · rw [h] at e; cases e

inductive Kd where | fz | ow | bo
noncomputable def Val (K : PySem.W.Frag) (F' H H' : Hp) : Kd → D → V → Prop
  | .fz, d, v => Rep K F' d v
  | .ow, d, v => ∃ a, v = .ref a ∧ H a = none ∧ F' a = none ∧ Cell K F' H' a d
  | .bo, d, v => ∃ a, v = .ref a ∧ F' a = none ∧ Cell K F' H' a d
theorem Val.rd {k : Kd} {d : D} {v : V} (h : Val K F' H H' k d v) : RdV K F' H' d v := by
  cases k with
  | fz => exact .inl h
  | ow => obtain ⟨a, h1, _, _, h2⟩ := h; exact .inr ⟨a, h1, h2⟩
  | bo => obtain ⟨a, h1, _, h2⟩ := h; exact .inr ⟨a, h1, h2⟩
theorem Val.later {k : Kd} {d : D} {v : V} {F1 H1 : Hp} (h : Val K F' H H' k d v) (s : Step F' H' F1 H1) : Val K F1 H H1 k d v := by
  cases k with
  | fz => exact Rep.mono s.up h
  | ow => obtain ⟨a, h1, h2, h3, h4⟩ := h; obtain ⟨o, ho⟩ := h4.some; exact ⟨a, h1, h2, s.unfz ho h3, h4.mono s.up fun o e => s.keep _ _ e⟩
  | bo => obtain ⟨a, h1, h3, h4⟩ := h; obtain ⟨o, ho⟩ := h4.some; exact ⟨a, h1, s.unfz ho h3, h4.mono s.up fun o e => s.keep _ _ e⟩
theorem Val.early {k : Kd} {d : D} {v : V} {H1 : Hp} (h : Val K F' H1 H' k d v) (e : Same H H1) : Val K F' H H' k d v := by
  cases k with
  | fz => exact h
  | ow => obtain ⟨a, h1, h2, h3, h4⟩ := h; exact ⟨a, h1, e.free h2, h3, h4⟩
  | bo => exact h
theorem RdV.later {d : D} {v : V} {F1 H1 : Hp} (h : RdV K F H d v) (s : Step F H F1 H1) : RdV K F1 H1 d v := by
  rcases h with h | ⟨a, h1, h2⟩
  · exact .inl (h.mono s.up)
  · exact .inr ⟨a, h1, h2.mono s.up fun o e => s.keep _ _ e⟩
theorem RdV.rep {d : D} {v : V} (h : RdV K F H d v) (s : Same F H) : Rep K H d v := by
  rcases h with h | ⟨a, rfl, h2⟩
  · exact h.mono s
  · exact h2.rep s fun o e => e

theorem RdV.non {v : V} (h : RdV K F H .non v) : v = .non := by
  rcases h with h | ⟨a, _, h⟩
  · rw [Rep] at h; exact h
  · exact h.elim
theorem RdV.bl {b : Bool} {v : V} (h : RdV K F H (.bl b) v) : v = .bl b := by
  rcases h with h | ⟨a, _, h⟩
  · rw [Rep] at h; exact h
  · exact h.elim
theorem RdV.int {i : Int} {v : V} (h : RdV K F H (.int i) v) : v = .int i := by
  rcases h with h | ⟨a, _, h⟩
  · rw [Rep] at h; exact h
  · exact h.elim
theorem RdV.str {x : Str} {v : V} (h : RdV K F H (.str x) v) : v = .str x := by
  rcases h with h | ⟨a, _, h⟩
  · rw [Rep] at h; exact h
  · exact h.elim
theorem RdV.tup {xs : List D} {v : V} (s : Same F H) (h : RdV K F H (.tup xs) v) : ∃ a vs, v = .ref a ∧ H a = some (.tup vs) ∧ Reps K F xs vs := by
  rcases h with h | ⟨a, _, h⟩
  · rw [Rep] at h
    obtain ⟨a, vs, h1, h2, h3⟩ := h
    exact ⟨a, vs, h1, s _ _ h2, h3⟩
  · exact h.elim
theorem RdV.lst {xs : List D} {v : V} (s : Same F H) (h : RdV K F H (.lst xs) v) : ∃ a vs, v = .ref a ∧ H a = some (.lst vs) ∧ Reps K F xs vs := by
  rcases h with h | ⟨a, h1, h⟩
  · rw [Rep] at h
    obtain ⟨a, vs, h1, h2, h3⟩ := h
    exact ⟨a, vs, h1, s _ _ h2, h3⟩
  · obtain ⟨vs, h2, h3⟩ := h
    exact ⟨a, vs, h1, h2, h3⟩
theorem RdV.scr {xs : List D} {v : V} (s : Same F H) (h : RdV K F H (.scr xs) v) : ∃ a vs, v = .ref a ∧ SqL K H a vs ∧ Reps K F xs vs := by
  rcases h with h | ⟨a, _, h⟩
  · rw [Rep] at h
    obtain ⟨a, vs, h1, h2, h3⟩ := h
    exact ⟨a, vs, h1, Same.seq s h2, h3⟩
  · exact h.elim

structure Post (K : PySem.W.Frag) (F H : Hp) (k : Kd) (d : D) (F' : Hp) (v : V) (H' : Hp) : Prop where
  st : Step F H F' H'
  val : Val K F' H H' k d v
theorem Post.frz {d : D} {v : V} (p : Post K F H .ow d F' v H') : ∃ F'', Post K F H .fz d F'' v H' := by
  obtain ⟨s, a, rfl, h1, h2, h3⟩ := p
  obtain ⟨o, ho⟩ := h3.some
  have up : Same F' (upd F' a o) := fun b u e => by
    rw [upd_ne]; exact e
    rintro rfl; rw [h2] at e; cases e
  refine ⟨upd F' a o, ⟨s.up.trans up, fun b u e => ?_, s.keep, fun b u e => ?_⟩, h3.rep up fun o' e => ?_⟩
  · by_cases hb : b = a
    · subst hb; rw [upd_same] at e; cases e; exact ho
    · rw [upd_ne hb] at e; exact s.sub _ _ e
  · by_cases hb : b = a
    · subst hb; exact .inr h1
    · rw [upd_ne hb] at e; exact s.new _ _ e
  · rw [ho] at e; cases e; exact upd_same
theorem Post.own {a : Addr} {o : HO} {d : D} (s : Step F H F' H') (n : H' a = none) (c : ∀ H2, H2 a = some o → Cell K F' H2 a d) : Post K F H .ow d F' (.ref a) (upd H' a o) := by
  have up : Same H' (upd H' a o) := fun b u e => by
    rw [upd_ne]; exact e
    rintro rfl; rw [n] at e; cases e
  exact ⟨⟨s.up, s.sub.trans up, s.keep.trans up, s.new⟩, a, rfl, s.keep.free n, s.sub.free n, c _ upd_same⟩
theorem Post.made {a : Addr} {o : HO} {d : D} (s : Step F H F' H') (n : H' a = none) (c : ∀ F2, Same F' F2 → F2 a = some o → Rep K F2 d (.ref a)) : ∃ F2, Post K F H .fz d F2 (.ref a) (upd H' a o) := by
  have up : ∀ G : Hp, G a = none → Same G (upd G a o) := fun G n b u e => by
    rw [upd_ne]; exact e
    rintro rfl; rw [n] at e; cases e
  have nf : F' a = none := s.sub.free n
  refine ⟨upd F' a o, ⟨s.up.trans (up _ nf), fun b u e => ?_, s.keep.trans (up _ n), fun b u e => ?_⟩, c _ (up _ nf) upd_same⟩
  · by_cases hb : b = a
    · subst hb; rw [upd_same] at e ⊢; exact e
    · rw [upd_ne hb] at e ⊢; exact s.sub _ _ e
  · by_cases hb : b = a
    · subst hb; exact .inr (s.keep.free n)
    · rw [upd_ne hb] at e; exact s.new _ _ e
theorem Post.pure {d : D} {v : V} (s : Step F H F' H') (h : Rep K F' d v) : Post K F H .fz d F' v H' := ⟨s, h⟩

noncomputable abbrev Ev := List (Option (Kd × D))
structure FI (K : PySem.W.Frag) (F0 H0 F H : Hp) (ev : Ev) (σ : St) : Prop where
  st : Step F0 H0 F H
  at_ : ∀ (i : Nat) k d, ev[i]? = some (some (k, d)) → k ≠ .bo ∧ ∃ v, σ[i]? = some (some v) ∧ Val K F H0 H k d v
  apart : ∀ (i j : Nat) d e, i ≠ j → ev[i]? = some (some (.ow, d)) → ev[j]? = some (some (.ow, e)) → σ[i]? ≠ σ[j]?
  len : ev.length = σ.length
variable {ev : Ev} {σ : St}
theorem FI.later {F1 H1 : Hp} (f : FI K F0 H0 F H ev σ) (s : Step F H F1 H1) : FI K F0 H0 F1 H1 ev σ :=
  ⟨f.st.trans s, fun i k d e => by obtain ⟨n, v, e1, h⟩ := f.at_ i k d e; exact ⟨n, v, e1, h.later s⟩, f.apart, f.len⟩
theorem FI.sub (f : FI K F0 H0 F H ev σ) : Same F H := f.st.sub
theorem FI.refl (f : FI K F0 H0 F H ev σ) : Step F H F H := .refl f.sub
theorem FI.set {i : Nat} {k : Kd} {d : D} {v : V} (f : FI K F0 H0 F H ev σ) (p : Post K F H k d F' v H') (nb : k ≠ .bo) : FI K F0 H0 F' H' (ev.set i (some (k, d))) (σ.set i (some v)) := by
  have f' := f.later p.st
  refine ⟨f'.st, fun j k' d' e => ?_, fun j l d1 d2 hjl e1 e2 => ?_, by simpa using f.len⟩
  · by_cases hj : i = j
    · subst hj
      rw [List.getElem?_set_self'] at e
      cases q : ev[i]? with
      | none => rw [q] at e; cases e
      | some z =>
        rw [q] at e
        cases e
        have hi : i < σ.length := by rw [← f.len]; exact (List.getElem?_eq_some_iff.mp q).1
        exact ⟨nb, v, by rw [List.getElem?_set_self hi], p.val.early f.st.keep⟩
    · rw [List.getElem?_set_ne hj] at e ⊢
      exact f'.at_ j k' d' e
  · -- an owned new one differs from the others
    have key : ∀ (j : Nat) (e' : D), i ≠ j → k = .ow → ev[j]? = some (some (.ow, e')) → σ[j]? ≠ some (some v) := fun j e' hij hk ej z => by
      subst hk
      obtain ⟨_, u, ej', b, hb, _, _, c⟩ := f.at_ j _ _ ej
      obtain ⟨a, ha, hn, _, _⟩ := p.val
      rw [z] at ej'
      have ej'' : v = u := by simpa using ej'
      subst ej''; subst ha; cases hb
      obtain ⟨o, ho⟩ := c.some
      rw [hn] at ho; cases ho
    have inEv : ∀ {m : Nat} {x : Option (Kd × D)}, (ev.set i (some (k, d)))[i]? = some x → (σ.set i (some v))[i]? = some (some v) := fun {m x} e => by
      rw [List.getElem?_set_self'] at e
      cases q : ev[i]? with
      | none => rw [q] at e; cases e
      | some z =>
        have hi : i < σ.length := by rw [← f.len]; exact (List.getElem?_eq_some_iff.mp q).1
        rw [List.getElem?_set_self hi]
    have kow : ∀ {x : D}, (ev.set i (some (k, d)))[i]? = some (some (.ow, x)) → k = .ow := fun {x} e => by
      rw [List.getElem?_set_self'] at e
      cases q : ev[i]? with
      | none => rw [q] at e; cases e
      | some z =>
        rw [q] at e
        have : some (k, d) = some (Kd.ow, x) := Option.some.inj e
        cases this; rfl
    by_cases hj : i = j
    · subst hj
      rw [List.getElem?_set_ne hjl] at e2
      rw [inEv (m := i) e1, List.getElem?_set_ne hjl]
      exact fun z => key l d2 hjl (kow e1) e2 z.symm
    · by_cases hl : i = l
      · subst hl
        rw [List.getElem?_set_ne hj] at e1
        rw [inEv (m := i) e2, List.getElem?_set_ne hj]
        exact fun z => key j d1 hj (kow e2) e1 z
      · rw [List.getElem?_set_ne hj] at e1 ⊢
        rw [List.getElem?_set_ne hl] at e2 ⊢
        exact f.apart j l d1 d2 hjl e1 e2
theorem FI.weak {ev' : Ev} (f : FI K F0 H0 F H ev σ) (hl : ev'.length = ev.length) (w : ∀ (i : Nat) k d, ev'[i]? = some (some (k, d)) → ev[i]? = some (some (k, d))) : FI K F0 H0 F H ev' σ :=
  ⟨f.st, fun i k d e => f.at_ i k d (w i k d e), fun i j d e h a b => f.apart i j d e h (w _ _ _ a) (w _ _ _ b), hl.trans f.len⟩
end
end L3
set_option linter.all false
set_option maxRecDepth 100000
namespace L3
open PySem L2
inductive R where | ok (k : Kd) (d : D) | ex (C : Addr) | no
inductive RA where | ok (l : List (Kd × D)) | ex (C : Addr) | no
inductive Fl where | nx (ev : Ev) | rt (k : Kd) (d : D) | bk (ev : Ev) | ct (ev : Ev) | ex (C : Addr) | no
noncomputable abbrev Psi := Addr → Hp → Prop

noncomputable def ValA (K : PySem.W.Frag) (F' H H' : Hp) : List (Kd × D) → List V → Prop
  | [], vs => vs = []
  | (k, d) :: l, vs => ∃ v r, vs = v :: r ∧ k ≠ .ow ∧ Val K F' H H' k d v ∧ ValA K F' H H' l r

noncomputable def tV (K : PySem.W.Frag) (F0 H0 : Hp) (Ψ : Psi) (f : Ev → R) : TE := fun σ H Q => ∃ F ev, FI K F0 H0 F H ev σ ∧ match f ev with
  | .ok k d => ∀ F' v H', Post K F H k d F' v H' → Q v H'
  | .ex C => ∀ F' H', Step F0 H0 F' H' → Ψ C H'
  | .no => False
noncomputable def tVT (K : PySem.W.Frag) (F0 H0 : Hp) (Ψ : Psi) (f : Ev → R) : TT := fun σ H Q => ∃ F ev, FI K F0 H0 F H ev σ ∧ match f ev with
  | .ok _ (.bl b) => ∀ F' H', Step F H F' H' → Q b H'
  | .ex C => ∀ F' H', Step F0 H0 F' H' → Ψ C H'
  | _ => False
noncomputable def tVA (K : PySem.W.Frag) (F0 H0 : Hp) (Ψ : Psi) (f : Ev → RA) : TA := fun σ H Q => ∃ F ev, FI K F0 H0 F H ev σ ∧ match f ev with
  | .ok l => ∀ F' vs H', Step F H F' H' → ValA K F' H H' l vs → Q vs H'
  | .ex C => ∀ F' H', Step F0 H0 F' H' → Ψ C H'
  | .no => False
noncomputable def FlowTo (K : PySem.W.Frag) (F0 H0 : Hp) (Ψ : Psi) (F : Hp) (D : Ends) : Fl → Prop
  | .nx ev => ∀ F' H' σ', Same F F' → FI K F0 H0 F' H' ev σ' → D.nx σ' H'
  | .rt k d => ∀ F' v H', Post K F0 H0 k d F' v H' → D.rt v H'
  | .bk ev => ∀ F' H' σ', Same F F' → FI K F0 H0 F' H' ev σ' → D.bk σ' H'
  | .ct ev => ∀ F' H' σ', Same F F' → FI K F0 H0 F' H' ev σ' → D.ct σ' H'
  | .ex C => ∀ F' H', Step F0 H0 F' H' → Ψ C H'
  | .no => False
noncomputable def tSv (K : PySem.W.Frag) (F0 H0 : Hp) (Ψ : Psi) (g : Ev → Fl) : TS := fun D σ H => ∃ F ev, FI K F0 H0 F H ev σ ∧ FlowTo K F0 H0 Ψ F D (g ev)

noncomputable def VE (X : Cx) (F0 H0 : Hp) (Ψ : Psi) (e : Expr) (f : Ev → R) : Prop := PE X e (tV X.K F0 H0 Ψ f)
noncomputable def VT (X : Cx) (F0 H0 : Hp) (Ψ : Psi) (e : Expr) (f : Ev → R) : Prop := PT X e (tVT X.K F0 H0 Ψ f)
noncomputable def VW (X : Cx) (F0 H0 : Hp) (Ψ : Psi) (e : Expr) (f : Ev → R) : Prop := PW X e (tVT X.K F0 H0 Ψ f)
noncomputable def VA (X : Cx) (F0 H0 : Hp) (Ψ : Psi) (es : List Expr) (f : Ev → RA) : Prop := PA X es (tVA X.K F0 H0 Ψ f)
noncomputable def VS (X : Cx) (F0 H0 : Hp) (Ψ : Psi) (st : Stmt) (g : Ev → Fl) : Prop := PS X st (tSv X.K F0 H0 Ψ g)
noncomputable def VSs (X : Cx) (F0 H0 : Hp) (Ψ : Psi) (sts : List Stmt) (g : Ev → Fl) : Prop := PSs X sts (tSv X.K F0 H0 Ψ g)

section
variable {X : Cx} {K : PySem.W.Frag} {F0 H0 F H F' H' : Hp} {Ψ : Psi} {σ : St} {ev : Ev}
noncomputable def varR (i : Nat) (ev : Ev) : R := match ev[i]? with
  | some (some (.fz, d)) => .ok .fz d
  | some (some (.ow, d)) => .ok .bo d
  | _ => .no
theorem tVar_of {i : Nat} {Q : VK} (h : tV K F0 H0 Ψ (varR i) σ H Q) : tVar i σ H Q := by
  obtain ⟨F, ev, fi, m⟩ := h
  unfold varR at m
  split at m
  · rename_i k d hm
    split at hm
    · rename_i d' e
      cases hm
      obtain ⟨_, v, e1, hv⟩ := fi.at_ _ _ _ e
      exact ⟨v, e1, m F v H ⟨fi.refl, hv⟩⟩
    · rename_i d' e
      cases hm
      obtain ⟨_, v, e1, a, h1, h2, h3, h4⟩ := fi.at_ _ _ _ e
      exact ⟨v, e1, m F v H ⟨fi.refl, a, h1, h3, h4⟩⟩
    · cases hm
  · rename_i C hm
    split at hm <;> cases hm
  · exact m.elim
noncomputable def conR (d : D) (_ : Ev) : R := .ok .fz d
theorem tC_of {v : V} {d : D} {Q : VK} (r : Rep K F0 d v) (h : tV K F0 H0 Ψ (conR d) σ H Q) : tC v σ H Q := by
  obtain ⟨F, ev, fi, m⟩ := h
  exact m F v H ⟨fi.refl, r.mono fi.st.up⟩

noncomputable abbrev G2 := D → D → Option (Kd × D)
noncomputable def toR : Option (Kd × D) → R
  | some (k, d) => .ok k d
  | none => .no
noncomputable def op2 (g : G2) : R → R → R
  | .ok _ a, .ok _ b => toR (g a b)
  | .ok _ _, r => r
  | r, _ => r
noncomputable def OkOp (K : PySem.W.Frag) (r : R2) (g : G2) : Prop := ∀ (F H : Hp) dx dy x y k d (Q : VK), Same F H → RdV K F H dx x → RdV K F H dy y → g dx dy = some (k, d) → (∀ F' v H', Post K F H k d F' v H' → Q v H') → r x y H Q
theorem OkOp.or {r r' : R2} {g g' : G2} (h : OkOp K r g) (h' : OkOp K r' g') : OkOp K (fun x y H Q => r x y H Q ∨ r' x y H Q) (fun a b => (g a b).or (g' a b)) := by
  intro F H dx dy x y k d Q s rx ry e q
  dsimp only at e
  cases e1 : g dx dy with
  | some z => obtain ⟨k', d'⟩ := z; rw [e1] at e; cases e; exact .inl (h F H dx dy x y k d Q s rx ry e1 q)
  | none => rw [e1] at e; exact .inr (h' F H dx dy x y k d Q s rx ry e q)
theorem tOp_of {r : R2} {g : G2} {f1 f2 : Ev → R} {Q : VK} (ho : OkOp K r g) (h : tV K F0 H0 Ψ (fun ev => op2 g (f1 ev) (f2 ev)) σ H Q) : tOp r (tV K F0 H0 Ψ f1) (tV K F0 H0 Ψ f2) σ H Q := by
  obtain ⟨F, ev, fi, m⟩ := h
  try dsimp only at m
  refine ⟨F, ev, fi, ?_⟩
  cases h1 : f1 ev with
  | no => rw [h1] at m; exact m
  | ex C => rw [h1] at m; exact m
  | ok k1 d1 =>
    rw [h1] at m
    intro F1 x H1 p1
    refine ⟨F1, ev, fi.later p1.st, ?_⟩
    cases h2 : f2 ev with
    | no => rw [h2] at m; exact m
    | ex C => rw [h2] at m; exact m
    | ok k2 d2 =>
      rw [h2] at m
      intro F2 y H2 p2
      have m : match toR (g d1 d2) with
        | .ok k d => ∀ F' v H', Post K F H k d F' v H' → Q v H'
        | .ex C => ∀ F' H', Step F0 H0 F' H' → Ψ C H'
        | .no => False := m
      cases e : g d1 d2 with
      | none => rw [e] at m; exact m.elim
      | some z =>
        obtain ⟨k, d⟩ := z
        rw [e] at m
        have s := p1.st.trans p2.st
        exact ho F2 H2 d1 d2 x y k d Q p2.st.sub (p1.val.rd.later p2.st) p2.val.rd e fun F3 v H3 p3 => m F3 v H3 ⟨s.trans p3.st, p3.val.early s.keep⟩

theorem tB_of {f : Ev → R} {Q : Bool → Hp → Prop} (h : tVT K F0 H0 Ψ f σ H Q) : tB (tV K F0 H0 Ψ f) σ H Q := by
  obtain ⟨F, ev, fi, m⟩ := h
  try dsimp only at m
  refine ⟨F, ev, fi, ?_⟩
  cases h1 : f ev with
  | no => rw [h1] at m; exact m
  | ex C => rw [h1] at m; exact m
  | ok k d =>
    rw [h1] at m
    intro F1 v H1 p
    cases d with
    | bl b => exact ⟨b, p.val.rd.bl, m F1 H1 p.st⟩
    | _ => exact m.elim
noncomputable def andR : R → R → R
  | .ok _ (.bl b), r => if b then r else .ok .fz (.bl false)
  | .ex C, _ => .ex C
  | _, _ => .no
noncomputable def orR : R → R → R
  | .ok _ (.bl b), r => if b then .ok .fz (.bl true) else r
  | .ex C, _ => .ex C
  | _, _ => .no
noncomputable def notR : R → R
  | .ok _ (.bl b) => .ok .fz (.bl !b)
  | .ex C => .ex C
  | _ => .no
theorem tAnd_of {f g : Ev → R} {Q : Bool → Hp → Prop} (h : tVT K F0 H0 Ψ (fun ev => andR (f ev) (g ev)) σ H Q) : tAnd (tVT K F0 H0 Ψ f) (tVT K F0 H0 Ψ g) σ H Q := by
  obtain ⟨F, ev, fi, m⟩ := h
  try dsimp only at m
  refine ⟨F, ev, fi, ?_⟩
  cases h1 : f ev with
  | no => rw [h1] at m; exact m
  | ex C => rw [h1] at m; exact m
  | ok k d =>
    rw [h1] at m
    cases d with
    | bl b =>
      intro F1 H1 p
      cases b with
      | true =>
        rw [if_pos rfl]
        refine ⟨F1, ev, fi.later p, ?_⟩
        have m : match g ev with
          | .ok _ (.bl b) => ∀ F' H', Step F H F' H' → Q b H'
          | .ex C => ∀ F' H', Step F0 H0 F' H' → Ψ C H'
          | _ => False := m
        cases h2 : g ev with
        | no => rw [h2] at m; exact m
        | ex C => rw [h2] at m; exact m
        | ok k2 d2 =>
          rw [h2] at m
          cases d2 with
          | bl b => exact fun F2 H2 p2 => m F2 H2 (p.trans p2)
          | _ => exact m.elim
      | false => rw [if_neg Bool.false_ne_true]; exact m F1 H1 p
    | _ => exact m.elim
theorem tOr_of {f g : Ev → R} {Q : Bool → Hp → Prop} (h : tVT K F0 H0 Ψ (fun ev => orR (f ev) (g ev)) σ H Q) : tOr (tVT K F0 H0 Ψ f) (tVT K F0 H0 Ψ g) σ H Q := by
  obtain ⟨F, ev, fi, m⟩ := h
  try dsimp only at m
  refine ⟨F, ev, fi, ?_⟩
  cases h1 : f ev with
  | no => rw [h1] at m; exact m
  | ex C => rw [h1] at m; exact m
  | ok k d =>
    rw [h1] at m
    cases d with
    | bl b =>
      intro F1 H1 p
      cases b with
      | false =>
        rw [if_neg Bool.false_ne_true]
        refine ⟨F1, ev, fi.later p, ?_⟩
        have m : match g ev with
          | .ok _ (.bl b) => ∀ F' H', Step F H F' H' → Q b H'
          | .ex C => ∀ F' H', Step F0 H0 F' H' → Ψ C H'
          | _ => False := m
        cases h2 : g ev with
        | no => rw [h2] at m; exact m
        | ex C => rw [h2] at m; exact m
        | ok k2 d2 =>
          rw [h2] at m
          cases d2 with
          | bl b => exact fun F2 H2 p2 => m F2 H2 (p.trans p2)
          | _ => exact m.elim
      | true => rw [if_pos rfl]; exact m F1 H1 p
    | _ => exact m.elim
theorem tNot_of {f : Ev → R} {Q : Bool → Hp → Prop} (h : tVT K F0 H0 Ψ (fun ev => notR (f ev)) σ H Q) : tNot (tVT K F0 H0 Ψ f) σ H Q := by
  obtain ⟨F, ev, fi, m⟩ := h
  try dsimp only at m
  refine ⟨F, ev, fi, ?_⟩
  cases h1 : f ev with
  | no => rw [h1] at m; exact m
  | ex C => rw [h1] at m; exact m
  | ok k d =>
    rw [h1] at m
    cases d with
    | bl b => exact fun F1 H1 p => m F1 H1 p
    | _ => exact m.elim
theorem tAndV_of {f g : Ev → R} {Q : VK} (h : tV K F0 H0 Ψ (fun ev => andR (f ev) (g ev)) σ H Q) : tAndV (tV K F0 H0 Ψ f) (tV K F0 H0 Ψ g) σ H Q := by
  obtain ⟨F, ev, fi, m⟩ := h
  try dsimp only at m
  refine ⟨F, ev, fi, ?_⟩
  cases h1 : f ev with
  | no => rw [h1] at m; exact m
  | ex C => rw [h1] at m; exact m
  | ok k d =>
    rw [h1] at m
    intro F1 x H1 p
    cases d with
    | bl b =>
      refine ⟨b, p.val.rd.bl, ?_⟩
      cases b with
      | true =>
        rw [if_pos rfl]
        refine ⟨F1, ev, fi.later p.st, ?_⟩
        have m : match g ev with
          | .ok k d => ∀ F' v H', Post K F H k d F' v H' → Q v H'
          | .ex C => ∀ F' H', Step F0 H0 F' H' → Ψ C H'
          | .no => False := m
        cases h2 : g ev with
        | no => rw [h2] at m; exact m
        | ex C => rw [h2] at m; exact m
        | ok k2 d2 => rw [h2] at m; exact fun F2 y H2 p2 => m F2 y H2 ⟨p.st.trans p2.st, p2.val.early p.st.keep⟩
      | false => rw [if_neg Bool.false_ne_true]; exact m F1 _ H1 ⟨p.st, by rw [Val, Rep]⟩
    | _ => exact m.elim
theorem tOrV_of {f g : Ev → R} {Q : VK} (h : tV K F0 H0 Ψ (fun ev => orR (f ev) (g ev)) σ H Q) : tOrV (tV K F0 H0 Ψ f) (tV K F0 H0 Ψ g) σ H Q := by
  obtain ⟨F, ev, fi, m⟩ := h
  try dsimp only at m
  refine ⟨F, ev, fi, ?_⟩
  cases h1 : f ev with
  | no => rw [h1] at m; exact m
  | ex C => rw [h1] at m; exact m
  | ok k d =>
    rw [h1] at m
    intro F1 x H1 p
    cases d with
    | bl b =>
      refine ⟨b, p.val.rd.bl, ?_⟩
      cases b with
      | false =>
        rw [if_neg Bool.false_ne_true]
        refine ⟨F1, ev, fi.later p.st, ?_⟩
        have m : match g ev with
          | .ok k d => ∀ F' v H', Post K F H k d F' v H' → Q v H'
          | .ex C => ∀ F' H', Step F0 H0 F' H' → Ψ C H'
          | .no => False := m
        cases h2 : g ev with
        | no => rw [h2] at m; exact m
        | ex C => rw [h2] at m; exact m
        | ok k2 d2 => rw [h2] at m; exact fun F2 y H2 p2 => m F2 y H2 ⟨p.st.trans p2.st, p2.val.early p.st.keep⟩
      | true => rw [if_pos rfl]; exact m F1 _ H1 ⟨p.st, by rw [Val, Rep]⟩
    | _ => exact m.elim
noncomputable def frzK : Kd → Kd
  | .ow => .fz
  | k => k
noncomputable def consA : R → RA → RA
  | .ok k d, .ok l => .ok ((frzK k, d) :: l)
  | .ok _ _, r => r
  | .ex C, _ => .ex C
  | .no, _ => .no
theorem ValA.early {H1 : Hp} : ∀ {l : List (Kd × D)} {vs : List V}, ValA K F' H1 H' l vs → Same H H1 → ValA K F' H H' l vs
  | [], _, h, _ => h
  | (k, d) :: l, _, h, s => by
    obtain ⟨v, r, h1, h2, h3, h4⟩ := h
    exact ⟨v, r, h1, h2, h3.early s, ValA.early h4 s⟩
theorem Post.frzK {k : Kd} {d : D} {v : V} (p : Post K F H k d F' v H') : ∃ F'', Post K F H (frzK k) d F'' v H' ∧ L3.frzK k ≠ .ow := by
  cases k with
  | fz => exact ⟨F', p, by simp [L3.frzK]⟩
  | bo => exact ⟨F', p, by simp [L3.frzK]⟩
  | ow => obtain ⟨F'', q⟩ := p.frz; exact ⟨F'', q, by simp [L3.frzK]⟩
theorem tNil_of {Q : List V → Hp → Prop} (h : tVA K F0 H0 Ψ (fun _ => .ok []) σ H Q) : tNil σ H Q := by
  obtain ⟨F, ev, fi, m⟩ := h
  exact m F [] H fi.refl rfl
theorem tCons_of {f : Ev → R} {fs : Ev → RA} {Q : List V → Hp → Prop} (h : tVA K F0 H0 Ψ (fun ev => consA (f ev) (fs ev)) σ H Q) : tCons (tV K F0 H0 Ψ f) (tVA K F0 H0 Ψ fs) σ H Q := by
  obtain ⟨F, ev, fi, m⟩ := h
  try dsimp only at m
  refine ⟨F, ev, fi, ?_⟩
  cases h1 : f ev with
  | no => rw [h1] at m; exact m
  | ex C => rw [h1] at m; exact m
  | ok k d =>
    rw [h1] at m
    intro F1 x H1 p
    obtain ⟨F1, p, nw⟩ := p.frzK
    refine ⟨F1, ev, fi.later p.st, ?_⟩
    cases h2 : fs ev with
    | no => rw [h2] at m; exact m
    | ex C => rw [h2] at m; exact m
    | ok l =>
      rw [h2] at m
      exact fun F2 vs H2 s v => m F2 (x :: vs) H2 (p.st.trans s) ⟨x, vs, rfl, nw, p.val.later s, v.early p.st.keep⟩

noncomputable def allFz : List (Kd × D) → Option (List D)
  | [] => some []
  | (.fz, d) :: l => (allFz l).map (d :: ·)
  | _ => none
theorem ValA.fz : ∀ {l : List (Kd × D)} {vs : List V} {ds : List D}, ValA K F' H H' l vs → allFz l = some ds → Reps K F' ds vs
  | [], _, _, h, e => by cases e; cases h; exact .nil
  | (k, d) :: l, _, ds, h, e => by
    obtain ⟨v, r, rfl, h2, h3, h4⟩ := h
    cases k with
    | fz =>
      simp only [allFz] at e
      cases q : allFz l with
      | none => rw [q] at e; cases e
      | some ds' => rw [q] at e; cases e; exact .cons h3 (ValA.fz h4 q)
    | _ => cases e
theorem ValA.rds : ∀ {l : List (Kd × D)} {vs : List V}, ValA K F' H H' l vs → Same F' H' → Reps K H' (l.map (·.2)) vs
  | [], _, h, _ => by cases h; exact .nil
  | (k, d) :: l, _, h, s => by
    obtain ⟨v, r, rfl, h2, h3, h4⟩ := h
    exact .cons (h3.rd.rep s) (ValA.rds h4 s)
theorem ValA.length : ∀ {l : List (Kd × D)} {vs : List V}, ValA K F' H H' l vs → l.length = vs.length
  | [], _, h => by cases h; rfl
  | (k, d) :: l, _, h => by obtain ⟨v, r, rfl, h2, h3, h4⟩ := h; simp [ValA.length h4]
noncomputable def LIM : Nat := 1000000
noncomputable def tupR : RA → R
  | .ok l => match allFz l with
    | some ds => if ds.length ≤ LIM then .ok .fz (.tup ds) else .no
    | none => .no
  | .ex C => .ex C
  | .no => .no
noncomputable def lstR : RA → R
  | .ok l => match allFz l with
    | some ds => if ds.length ≤ LIM then .ok .ow (.lst ds) else .no
    | none => .no
  | .ex C => .ex C
  | .no => .no
theorem tTup_of {fs : Ev → RA} {Q : VK} (h : tV K F0 H0 Ψ (fun ev => tupR (fs ev)) σ H Q) : tTup (tVA K F0 H0 Ψ fs) σ H Q := by
  obtain ⟨F, ev, fi, m⟩ := h
  try dsimp only at m
  refine ⟨F, ev, fi, ?_⟩
  cases h1 : fs ev with
  | no => rw [h1] at m; exact m
  | ex C => rw [h1] at m; exact m
  | ok l =>
    rw [h1] at m
    intro F1 vs H1 s va
    simp only [tupR] at m
    cases q : allFz l with
    | none => rw [q] at m; exact m.elim
    | some ds =>
      rw [q] at m
      by_cases hl : ds.length ≤ LIM
      · simp only [hl, if_true] at m
        have rs := va.fz q
        refine ⟨by rw [← rs.length]; exact Nat.le_trans hl sizeLine_ge, fun p hp => ?_⟩
        obtain ⟨F2, p2⟩ := Post.made (K := K) (d := .tup ds) (o := .tup vs) s hp fun F2 up e => by rw [Rep]; exact ⟨p, vs, rfl, e, rs.mono up⟩
        exact m F2 _ _ p2
      · simp only [hl, if_false] at m
theorem tLst_of {fs : Ev → RA} {Q : VK} (h : tV K F0 H0 Ψ (fun ev => lstR (fs ev)) σ H Q) : tLst (tVA K F0 H0 Ψ fs) σ H Q := by
  obtain ⟨F, ev, fi, m⟩ := h
  try dsimp only at m
  refine ⟨F, ev, fi, ?_⟩
  cases h1 : fs ev with
  | no => rw [h1] at m; exact m
  | ex C => rw [h1] at m; exact m
  | ok l =>
    rw [h1] at m
    intro F1 vs H1 s va
    simp only [lstR] at m
    cases q : allFz l with
    | none => rw [q] at m; exact m.elim
    | some ds =>
      rw [q] at m
      by_cases hl : ds.length ≤ LIM
      · simp only [hl, if_true] at m
        have rs := va.fz q
        refine ⟨by rw [← rs.length]; exact Nat.le_trans hl sizeLine_ge, fun p hp => ?_⟩
        exact m F1 _ _ (Post.own s hp fun H2 e => ⟨vs, e, rs⟩)
      · simp only [hl, if_false] at m
noncomputable abbrev GN := List D → Option (Kd × D)
noncomputable def RdA (K : PySem.W.Frag) (F H : Hp) : List D → List V → Prop
  | [], vs => vs = []
  | d :: l, vs => ∃ v r, vs = v :: r ∧ RdV K F H d v ∧ RdA K F H l r
theorem ValA.rda : ∀ {l : List (Kd × D)} {vs : List V}, ValA K F' H H' l vs → RdA K F' H' (l.map (·.2)) vs
  | [], _, h => h
  | (k, d) :: l, _, h => by
    obtain ⟨v, r, rfl, h2, h3, h4⟩ := h
    exact ⟨v, r, rfl, h3.rd, ValA.rda h4⟩
noncomputable def OkCall (K : PySem.W.Frag) (r : List V → Hp → VK → Prop) (g : GN) : Prop := ∀ (F H : Hp) ds vs k d (Q : VK), Same F H → RdA K F H ds vs → g ds = some (k, d) → (∀ F' v H', Post K F H k d F' v H' → Q v H') → r vs H Q
noncomputable def callR (g : GN) : RA → R
  | .ok l => toR (g (l.map (·.2)))
  | .ex C => .ex C
  | .no => .no
theorem tCB_of {r : List V → Hp → VK → Prop} {g : GN} {fs : Ev → RA} {Q : VK} (ho : OkCall K r g) (h : tV K F0 H0 Ψ (fun ev => callR g (fs ev)) σ H Q) : tCB r (tVA K F0 H0 Ψ fs) σ H Q := by
  obtain ⟨F, ev, fi, m⟩ := h
  try dsimp only at m
  refine ⟨F, ev, fi, ?_⟩
  cases h1 : fs ev with
  | no => rw [h1] at m; exact m
  | ex C => rw [h1] at m; exact m
  | ok l =>
    rw [h1] at m
    intro F1 vs H1 s va
    have m : match toR (g (l.map (·.2))) with
        | .ok k d => ∀ F' v H', Post K F H k d F' v H' → Q v H'
        | .ex C => ∀ F' H', Step F0 H0 F' H' → Ψ C H'
        | .no => False := m
    cases e : g (l.map (·.2)) with
    | none => rw [e] at m; exact m.elim
    | some z =>
      obtain ⟨k, d⟩ := z
      rw [e] at m
      exact ho F1 H1 _ vs k d Q s.sub va.rda e fun F3 v H3 p3 => m F3 v H3 ⟨s.trans p3.st, p3.val.early s.keep⟩

theorem FlowTo.mono {E : Ends} {r : Fl} (h : FlowTo K F0 H0 Ψ F E r) (s : Same F F') : FlowTo K F0 H0 Ψ F' E r := by
  cases r with
  | nx ev => exact fun F2 H2 σ2 s2 fi => h F2 H2 σ2 (s.trans s2) fi
  | bk ev => exact fun F2 H2 σ2 s2 fi => h F2 H2 σ2 (s.trans s2) fi
  | ct ev => exact fun F2 H2 σ2 s2 fi => h F2 H2 σ2 (s.trans s2) fi
  | rt k d => exact h
  | ex C => exact h
  | no => exact h
noncomputable def seqG (g h : Ev → Fl) (ev : Ev) : Fl := match g ev with
  | .nx ev' => h ev'
  | r => r
theorem tSeq_of {g h : Ev → Fl} {E : Ends} (q : tSv K F0 H0 Ψ (seqG g h) E σ H) : tSeq (tSv K F0 H0 Ψ g) (tSv K F0 H0 Ψ h) E σ H := by
  obtain ⟨F, ev, fi, m⟩ := q
  refine ⟨F, ev, fi, ?_⟩
  unfold seqG at m
  cases h1 : g ev with
  | nx ev' => rw [h1] at m; exact fun F' H' σ' s fi' => ⟨F', ev', fi', m.mono s⟩
  | _ => rw [h1] at m; exact m
theorem tNext_of {E : Ends} (q : tSv K F0 H0 Ψ .nx E σ H) : tNext E σ H := by
  obtain ⟨F, ev, fi, m⟩ := q
  exact m F H σ (.refl _) fi
theorem tCont_of {E : Ends} (q : tSv K F0 H0 Ψ .ct E σ H) : tCont E σ H := by
  obtain ⟨F, ev, fi, m⟩ := q
  exact m F H σ (.refl _) fi
noncomputable def dropG (f : Ev → R) (ev : Ev) : Fl := match f ev with
  | .ok _ _ => .nx ev
  | .ex C => .ex C
  | .no => .no
theorem tDrop_of {f : Ev → R} {E : Ends} (q : tSv K F0 H0 Ψ (dropG f) E σ H) : tDrop (tV K F0 H0 Ψ f) E σ H := by
  obtain ⟨F, ev, fi, m⟩ := q
  refine ⟨F, ev, fi, ?_⟩
  unfold dropG at m
  cases h1 : f ev with
  | no => rw [h1] at m; exact m
  | ex C => rw [h1] at m; exact m
  | ok k d => rw [h1] at m; exact fun F1 x H1 p => m F1 H1 σ p.st.up (fi.later p.st)
noncomputable def retG (f : Ev → R) (ev : Ev) : Fl := match f ev with
  | .ok .bo _ => .no
  | .ok k d => .rt k d
  | .ex C => .ex C
  | .no => .no
theorem tRet_of {f : Ev → R} {E : Ends} (q : tSv K F0 H0 Ψ (retG f) E σ H) : tRet (tV K F0 H0 Ψ f) E σ H := by
  obtain ⟨F, ev, fi, m⟩ := q
  refine ⟨F, ev, fi, ?_⟩
  unfold retG at m
  cases h1 : f ev with
  | no => rw [h1] at m; exact m
  | ex C => rw [h1] at m; exact m
  | ok k d =>
    rw [h1] at m
    intro F1 x H1 p
    cases k with
    | bo => exact m.elim
    | fz => exact m F1 x H1 ⟨fi.st.trans p.st, p.val.early fi.st.keep⟩
    | ow => exact m F1 x H1 ⟨fi.st.trans p.st, p.val.early fi.st.keep⟩
noncomputable def retVarG (i : Nat) (ev : Ev) : Fl := match ev[i]? with
  | some (some (.fz, d)) => .rt .fz d
  | some (some (.ow, d)) => .rt .ow d
  | _ => .no
theorem tRetVar_of {i : Nat} {E : Ends} (q : tSv K F0 H0 Ψ (retVarG i) E σ H) : tRet (tVar i) E σ H := by
  obtain ⟨F, ev, fi, m⟩ := q
  unfold retVarG at m
  split at m
  · rename_i d e
    obtain ⟨_, v, e1, hv⟩ := fi.at_ _ _ _ e
    exact ⟨v, e1, m F v H ⟨fi.st, hv⟩⟩
  · rename_i d e
    obtain ⟨_, v, e1, hv⟩ := fi.at_ _ _ _ e
    exact ⟨v, e1, m F v H ⟨fi.st, hv⟩⟩
  · exact m.elim
noncomputable def ifG (c : Ev → R) (g h : Ev → Fl) (ev : Ev) : Fl := match c ev with
  | .ok _ (.bl b) => if b then g ev else h ev
  | .ex C => .ex C
  | _ => .no
theorem tIfS_of {c : Ev → R} {g h : Ev → Fl} {E : Ends} (q : tSv K F0 H0 Ψ (ifG c g h) E σ H) : tIfS (tVT K F0 H0 Ψ c) (tSv K F0 H0 Ψ g) (tSv K F0 H0 Ψ h) E σ H := by
  obtain ⟨F, ev, fi, m⟩ := q
  refine ⟨F, ev, fi, ?_⟩
  unfold ifG at m
  cases h1 : c ev with
  | no => rw [h1] at m; exact m
  | ex C => rw [h1] at m; exact m
  | ok k d =>
    rw [h1] at m
    cases d with
    | bl b =>
      intro F1 H1 p
      cases b with
      | true => rw [if_pos rfl]; exact ⟨F1, ev, fi.later p, FlowTo.mono m p.up⟩
      | false => rw [if_neg Bool.false_ne_true]; exact ⟨F1, ev, fi.later p, FlowTo.mono m p.up⟩
    | _ => exact m.elim

noncomputable abbrev B1 := D → Ev → Option Ev
noncomputable abbrev BN := List D → Ev → Option Ev
noncomputable def gV (K : PySem.W.Frag) (F0 H0 : Hp) (b : B1) : TG := fun v σ H Q => ∃ F ev d ev', FI K F0 H0 F H ev σ ∧ Rep K F d v ∧ b d ev = some ev' ∧ ∀ H' σ', H' = H → FI K F0 H0 F H ev' σ' → Q σ' H'
noncomputable def gVs (K : PySem.W.Frag) (F0 H0 : Hp) (b : BN) : TGs := fun vs σ H Q => ∃ F ev ds ev', FI K F0 H0 F H ev σ ∧ Reps K F ds vs ∧ b ds ev = some ev' ∧ ∀ H' σ', H' = H → FI K F0 H0 F H ev' σ' → Q σ' H'
noncomputable def bName (i : Nat) : B1 := fun d ev => some (ev.set i (some (.fz, d)))
theorem gName_of {i : Nat} {v : V} {Q : St → Hp → Prop} (q : gV K F0 H0 (bName i) v σ H Q) : gName i v σ H Q := by
  obtain ⟨F, ev, d, ev', fi, r, e, m⟩ := q
  cases e
  exact m H _ rfl (fi.set ⟨fi.refl, r⟩ (by simp))
noncomputable def bNil : BN := fun ds ev => match ds with
  | [] => some ev
  | _ => none
noncomputable def bCons (b : B1) (c : BN) : BN := fun ds ev => match ds with
  | d :: r => (b d ev).bind (c r)
  | [] => none
theorem gNil_of {vs : List V} {Q : St → Hp → Prop} (q : gVs K F0 H0 bNil vs σ H Q) : gNil vs σ H Q := by
  obtain ⟨F, ev, ds, ev', fi, r, e, m⟩ := q
  cases ds with
  | nil => cases e; exact ⟨r.unnil, m H σ rfl fi⟩
  | cons d ds => cases e
theorem gCons_of {b : B1} {c : BN} {vs : List V} {Q : St → Hp → Prop} (q : gVs K F0 H0 (bCons b c) vs σ H Q) : gCons (gV K F0 H0 b) (gVs K F0 H0 c) vs σ H Q := by
  obtain ⟨F, ev, ds, ev', fi, r, e, m⟩ := q
  cases ds with
  | nil => cases e
  | cons d ds =>
    obtain ⟨v, t, rfl, h1, h2⟩ := r.uncons
    refine ⟨v, t, rfl, ?_⟩
    simp only [bCons] at e
    cases q1 : b d ev with
    | none => rw [q1] at e; cases e
    | some ev1 =>
      rw [q1] at e
      refine ⟨F, ev, d, ev1, fi, h1, q1, fun H' σ' hH fi' => ?_⟩
      subst hH
      exact ⟨F, ev1, ds, ev', fi', h2, e, m⟩
noncomputable def bTup (n : Nat) (c : BN) : B1 := fun d ev => match d with
  | .tup ds => if ds.length = n then c ds ev else none
  | _ => none
theorem gTup_of {n : Nat} {c : BN} {v : V} {Q : St → Hp → Prop} (q : gV K F0 H0 (bTup n c) v σ H Q) : gTup K n (gVs K F0 H0 c) v σ H Q := by
  obtain ⟨F, ev, d, ev', fi, r, e, m⟩ := q
  cases d with
  | tup ds =>
    rw [Rep] at r
    obtain ⟨a, vs, h1, h2, h3⟩ := r
    simp only [bTup] at e
    by_cases hn : ds.length = n
    · rw [if_pos hn] at e
      exact ⟨a, vs, h1, SqT.of (fi.sub _ _ h2), by rw [← h3.length]; exact hn, F, ev, ds, ev', fi, h3, e, m⟩
    · rw [if_neg hn] at e; cases e
  | _ => cases e
noncomputable def setG (i : Nat) (f : Ev → R) (ev : Ev) : Fl := match f ev with
  | .ok .bo _ => .no
  | .ok k d => .nx (ev.set i (some (k, d)))
  | .ex C => .ex C
  | .no => .no
theorem tSet_of {i : Nat} {f : Ev → R} {E : Ends} (q : tSv K F0 H0 Ψ (setG i f) E σ H) : tAsg (tV K F0 H0 Ψ f) (gName i) E σ H := by
  obtain ⟨F, ev, fi, m⟩ := q
  refine ⟨F, ev, fi, ?_⟩
  unfold setG at m
  cases h1 : f ev with
  | no => rw [h1] at m; exact m
  | ex C => rw [h1] at m; exact m
  | ok k d =>
    rw [h1] at m
    intro F1 x H1 p
    cases k with
    | bo => exact m.elim
    | fz => exact m F1 H1 _ p.st.up (fi.set p (by simp))
    | ow => exact m F1 H1 _ p.st.up (fi.set p (by simp))
noncomputable def asgG (b : B1) (f : Ev → R) (ev : Ev) : Fl := match f ev with
  | .ok .bo _ => .no
  | .ok _ d => match b d ev with
    | some ev' => .nx ev'
    | none => .no
  | .ex C => .ex C
  | .no => .no
theorem tAsg_of {b : B1} {f : Ev → R} {E : Ends} (q : tSv K F0 H0 Ψ (asgG b f) E σ H) : tAsg (tV K F0 H0 Ψ f) (gV K F0 H0 b) E σ H := by
  obtain ⟨F, ev, fi, m⟩ := q
  refine ⟨F, ev, fi, ?_⟩
  unfold asgG at m
  cases h1 : f ev with
  | no => rw [h1] at m; exact m
  | ex C => rw [h1] at m; exact m
  | ok k d =>
    rw [h1] at m
    intro F1 x H1 p
    have go : ∀ F2, Post K F H .fz d F2 x H1 → FlowTo K F0 H0 Ψ F E (match b d ev with
      | some ev' => .nx ev'
      | none => .no) → gV K F0 H0 b x σ H1 E.nx := fun F2 p2 m => by
      cases q : b d ev with
      | none => rw [q] at m; exact m.elim
      | some ev' =>
        rw [q] at m
        exact ⟨F2, ev, d, ev', fi.later p2.st, p2.val, q, fun H' σ' hH fi' => by subst hH; exact m F2 _ σ' p2.st.up fi'⟩
    cases k with
    | bo => exact m.elim
    | fz => exact go F1 p m
    | ow => obtain ⟨F2, p2⟩ := p.frz; exact go F2 p2 m
noncomputable def frzEv (i : Nat) (ev : Ev) : Ev := match ev[i]? with
  | some (some (.ow, d)) => ev.set i (some (.fz, d))
  | _ => ev
theorem FI.frz (i : Nat) (f : FI K F0 H0 F H ev σ) : ∃ F', Same F F' ∧ FI K F0 H0 F' H (frzEv i ev) σ := by
  unfold frzEv
  split
  · rename_i d e
    obtain ⟨_, v, ev1, hv⟩ := f.at_ i _ _ e
    obtain ⟨a, rfl, h1, h2, h3⟩ := hv
    obtain ⟨o, ho⟩ := h3.some
    have hi : i < σ.length := (List.getElem?_eq_some_iff.mp ev1).1
    have hie : i < ev.length := by rw [f.len]; exact hi
    have up : Same F (upd F a o) := fun b u e => by
      rw [upd_ne]; exact e
      rintro rfl; rw [h2] at e; cases e
    have ne : ∀ {m : Nat} {x : D}, (ev.set i (some (Kd.fz, d)))[m]? = some (some (.ow, x)) → i ≠ m ∧ ev[m]? = some (some (.ow, x)) := fun {m x} q => by
      by_cases hm : i = m
      · subst hm; rw [List.getElem?_set_self hie] at q; cases q
      · rw [List.getElem?_set_ne hm] at q; exact ⟨hm, q⟩
    refine ⟨upd F a o, up, ⟨f.st.up.trans up, fun b u q => ?_, f.st.keep, fun b u q => ?_⟩, fun j k d' q => ?_, fun j l d1 d2 hjl e1 e2 => ?_, by simpa using f.len⟩
    · by_cases hb : b = a
      · subst hb; rw [upd_same] at q; cases q; exact ho
      · rw [upd_ne hb] at q; exact f.sub _ _ q
    · by_cases hb : b = a
      · subst hb; exact .inr h1
      · rw [upd_ne hb] at q; exact f.st.new _ _ q
    · by_cases hj : i = j
      · subst hj
        rw [List.getElem?_set_self hie] at q
        cases q
        exact ⟨by simp, _, ev1, h3.rep up fun o' e => by rw [ho] at e; cases e; exact upd_same⟩
      · rw [List.getElem?_set_ne hj] at q
        obtain ⟨n, u, e3, hu⟩ := f.at_ j k d' q
        refine ⟨n, u, e3, ?_⟩
        cases k with
        | bo => exact absurd rfl n
        | fz => exact Rep.mono up hu
        | ow =>
          obtain ⟨b, rfl, g1, g2, g3⟩ := hu
          have hba : b ≠ a := by
            rintro rfl
            exact f.apart i j d d' hj e q (by rw [ev1, e3])
          exact ⟨b, rfl, g1, by rw [upd_ne hba]; exact g2, g3.mono up fun o e => e⟩
    · exact f.apart j l d1 d2 hjl (ne e1).2 (ne e2).2
  · exact ⟨F, .refl _, f⟩
end
end L3
set_option linter.all false
set_option maxRecDepth 100000
namespace L3
open PySem L2
inductive RI where | ok (ds : List D) | ex (C : Addr) | no
structure Yields (K : PySem.W.Frag) (F : Hp) (J : It) (ds : List D) : Prop where
  go : ∀ (i : Nat) H, Same F H → i < ds.length → J.go i H
  stop : ∀ (i : Nat) H, Same F H → ds.length ≤ i → J.stop i H
  yld : ∀ (i : Nat) F1 H x H', Same F F1 → Same F1 H → i < ds.length → J.yld i H x H' → ∃ F2 d, Step F1 H F2 H' ∧ ds[i]? = some d ∧ Rep K F2 d x
noncomputable def tVI (K : PySem.W.Frag) (F0 H0 : Hp) (Ψ : Psi) (f : Ev → RI) : TI := fun σ H R => ∃ F ev, FI K F0 H0 F H ev σ ∧ match f ev with
  | .ok ds => ∀ F' H' J, Step F H F' H' → Yields K F' J ds → R J H'
  | .ex C => ∀ F' H', Step F0 H0 F' H' → Ψ C H'
  | .no => False
noncomputable def VI (X : Cx) (F0 H0 : Hp) (Ψ : Psi) (tg e : Expr) (f : Ev → RI) : Prop := PI X tg e (tVI X.K F0 H0 Ψ f)
noncomputable def forE (b : B1) (body : Ev → Fl) : List D → Ev → Fl
  | [], ev => .nx ev
  | d :: ds, ev => match b d ev with
    | none => .no
    | some ev1 => match body ev1 with
      | .nx ev2 => forE b body ds ev2
      | .ct ev2 => forE b body ds ev2
      | .bk ev2 => .nx ev2
      | r => r
noncomputable def forG (f : Ev → RI) (b : B1) (body : Ev → Fl) (ev : Ev) : Fl := match f ev with
  | .ok ds => forE b body ds ev
  | .ex C => .ex C
  | .no => .no
section
variable {X : Cx} {K : PySem.W.Frag} {F0 H0 F H F' H' : Hp} {Ψ : Psi} {σ : St} {ev : Ev}
theorem tFor_of {f : Ev → RI} {b : B1} {body : Ev → Fl} {E : Ends} (q : tSv K F0 H0 Ψ (forG f b body) E σ H) : tFor (tVI K F0 H0 Ψ f) (gV K F0 H0 b) (tSv K F0 H0 Ψ body) E σ H := by
  obtain ⟨F, ev, fi, m⟩ := q
  refine ⟨F, ev, fi, ?_⟩
  unfold forG at m
  cases h1 : f ev with
  | no => rw [h1] at m; exact m
  | ex C => rw [h1] at m; exact m
  | ok ds =>
    rw [h1] at m
    intro F1 H1 J s y
    refine ⟨fun i m σ H => m = ds.length - i ∧ i ≤ ds.length ∧ ∃ F ev, FI K F0 H0 F H ev σ ∧ Same F1 F ∧ FlowTo K F0 H0 Ψ F E (forE b body (ds.drop i) ev),
      ⟨ds.length, by simp, Nat.zero_le _, F1, ev, fi.later s, .refl _, FlowTo.mono m s.up⟩, ?_⟩
    rintro i m σ H ⟨rfl, hi, F, ev, fi, up, fl⟩
    have sH : Same F1 H := up.trans fi.sub
    by_cases hlt : i < ds.length
    · refine .inr ⟨y.go i H sH hlt, fun σ' H' => ∃ F ev, FI K F0 H0 F H' ev σ' ∧ Same F1 F ∧ FlowTo K F0 H0 Ψ F E (forE b body (ds.drop (i + 1)) ev), fun σ' H' n => ⟨ds.length - (i + 1), by omega, rfl, hlt, n⟩, fun x H' yl => ?_⟩
      obtain ⟨F2, d, s2, ed, r⟩ := y.yld i F H x H' up fi.sub hlt yl
      have e : ds.drop i = d :: ds.drop (i + 1) := by
        obtain ⟨h, e'⟩ := List.getElem?_eq_some_iff.mp ed
        rw [← e']
        exact List.drop_eq_getElem_cons h
      rw [e] at fl
      simp only [forE] at fl
      cases q1 : b d ev with
      | none => rw [q1] at fl; exact fl.elim
      | some ev1 =>
        rw [q1] at fl
        dsimp only at fl
        refine ⟨F2, ev, d, ev1, fi.later s2, r, q1, fun H'' σ' hH fi' => ?_⟩
        subst hH
        refine ⟨F2, ev1, fi', ?_⟩
        have fl2 := FlowTo.mono fl s2.up
        cases q2 : body ev1 with
        | nx ev2 => rw [q2] at fl2; exact fun F' H' σ' s' fi'' => ⟨F', ev2, fi'', (up.trans s2.up).trans s', FlowTo.mono fl2 s'⟩
        | ct ev2 => rw [q2] at fl2; exact fun F' H' σ' s' fi'' => ⟨F', ev2, fi'', (up.trans s2.up).trans s', FlowTo.mono fl2 s'⟩
        | bk ev2 => rw [q2] at fl2; exact fl2
        | rt k d => rw [q2] at fl2; exact fl2
        | ex C => rw [q2] at fl2; exact fl2
        | no => rw [q2] at fl2; exact fl2
    · have e : i = ds.length := by omega
      subst e
      rw [List.drop_length] at fl
      exact .inl ⟨y.stop _ H sH (Nat.le_refl _), fl F H σ (.refl _) fi⟩

noncomputable def itR : R → RI
  | .ok .bo _ => .no
  | .ok _ (.lst ds) => .ok ds
  | .ok _ (.scr ds) => .ok ds
  | .ex C => .ex C
  | _ => .no
theorem yields_list {a : Addr} {vs : List V} {ds : List D} (h : SqL K F a vs) (r : Reps K F ds vs) : Yields K F (Itl K a) ds where
  go := fun i H s hi => ⟨vs, vs[i]'(by rw [← r.length]; exact hi), Same.seq s h, by simp [← r.length, hi]⟩
  stop := fun i H s hi => ⟨vs, Same.seq s h, by rw [← r.length]; exact hi⟩
  yld := fun i F1 H x H' s1 s2 hi y => by
    obtain ⟨rfl, y⟩ := y
    have e := y vs (Same.seq (s1.trans s2) h)
    obtain ⟨d, ed⟩ : ∃ d, ds[i]? = some d := ⟨ds[i], by simp [hi]⟩
    obtain ⟨v, ev, rv⟩ := r.get ed
    rw [e] at ev
    cases ev
    exact ⟨F1, d, .refl s2, ed, rv.mono s1⟩
noncomputable def rangeD (lo : Int) (n : Nat) : List D := (List.range n).map fun (i : Nat) => .int (lo + i)
theorem yields_range {lo : Int} {n : Nat} : Yields K F (Itr lo n) (rangeD lo n) where
  go := fun i H s hi => by show i < n; simpa [rangeD] using hi
  stop := fun i H s hi => by show n ≤ i; simpa [rangeD] using hi
  yld := fun i F1 H x H' s1 s2 hi y => by
    obtain ⟨rfl, rfl⟩ := y
    have hi : i < n := by simpa [rangeD] using hi
    exact ⟨F1, .int (lo + i), .refl s2, by simp [rangeD, hi], by rw [Rep]⟩
theorem iList_of {f : Ev → R} {Q : It → Hp → Prop} (h : tVI K F0 H0 Ψ (fun ev => itR (f ev)) σ H Q) : iList K (tV K F0 H0 Ψ f) σ H Q := by
  obtain ⟨F, ev, fi, m⟩ := h
  dsimp only at m
  refine ⟨F, ev, fi, ?_⟩
  cases h1 : f ev with
  | no => rw [h1] at m; exact m
  | ex C => rw [h1] at m; exact m
  | ok k d =>
    rw [h1] at m
    intro F1 v H1 p
    have go : ∀ F2, Post K F H .fz d F2 v H1 → (∀ ds, itR (.ok .fz d) = .ok ds → ∀ F' H' J, Step F H F' H' → Yields K F' J ds → Q J H') → (∀ ds, d = .lst ds ∨ d = .scr ds → ∃ a, v = .ref a ∧ (∃ xs, SqL K H1 a xs) ∧ Q (Itl K a) H1) := fun F2 p2 m ds hd => by
      rcases hd with rfl | rfl
      · have r := p2.val
        rw [Val, Rep] at r
        obtain ⟨a, vs, e1, e2, e3⟩ := r
        exact ⟨a, e1, ⟨vs, SqL.of (p2.st.sub _ _ e2)⟩, m ds rfl F2 H1 _ p2.st (yields_list (SqL.of e2) e3)⟩
      · have r := p2.val
        rw [Val, Rep] at r
        obtain ⟨a, vs, e1, e2, e3⟩ := r
        exact ⟨a, e1, ⟨vs, Same.seq p2.st.sub e2⟩, m ds rfl F2 H1 _ p2.st (yields_list e2 e3)⟩
    cases k with
    | bo => cases d <;> exact m.elim
    | fz =>
      cases d with
      | lst ds => exact go F1 p (fun ds' e => by cases e; exact m) ds (.inl rfl)
      | scr ds => exact go F1 p (fun ds' e => by cases e; exact m) ds (.inr rfl)
      | _ => exact m.elim
    | ow =>
      obtain ⟨F2, p2⟩ := p.frz
      cases d with
      | lst ds => exact go F2 p2 (fun ds' e => by cases e; exact m) ds (.inl rfl)
      | scr ds => exact go F2 p2 (fun ds' e => by cases e; exact m) ds (.inr rfl)
      | _ => exact m.elim
noncomputable def rng1R : RA → RI
  | .ok [(_, .int j)] => if -(2 ^ 62) ≤ j ∧ j < 2 ^ 62 then .ok (rangeD 0 j.toNat) else .no
  | .ex C => .ex C
  | _ => .no
theorem iRng1_of {f : Ev → RA} {Q : It → Hp → Prop} (h : tVI K F0 H0 Ψ (fun ev => rng1R (f ev)) σ H Q) : iRng1 (tVA K F0 H0 Ψ f) σ H Q := by
  obtain ⟨F, ev, fi, m⟩ := h
  dsimp only at m
  refine ⟨F, ev, fi, ?_⟩
  unfold rng1R at m
  cases h1 : f ev with
  | no => rw [h1] at m; exact m
  | ex C => rw [h1] at m; exact m
  | ok l =>
    rw [h1] at m
    intro F1 vs H1 s va
    split at m
    · rename_i ds hm
      split at hm
      · rename_i k j he
        cases he
        split at hm
        · rename_i hb
          cases hm
          obtain ⟨v, r, rfl, _, hv, hr⟩ := va
          obtain rfl : r = [] := hr
          exact ⟨j, by rw [hv.rd.int], hb.1, hb.2, m F1 H1 _ s yields_range⟩
        · cases hm
      · rename_i he; cases he
      · cases hm
    · rename_i C hm
      split at hm
      · split at hm <;> cases hm
      · rename_i he; cases he
      · cases hm
    · exact m.elim
theorem FI.mut {i : Nat} {d d' : D} {a : Addr} {o : HO} (f : FI K F0 H0 F H ev σ) (e : ev[i]? = some (some (.ow, d))) (hs : σ[i]? = some (some (.ref a))) (c : ∀ H2, H2 a = some o → Cell K F H2 a d') :
    FI K F0 H0 F (upd H a o) (ev.set i (some (.ow, d'))) σ := by
  obtain ⟨_, v, e1, b, hb, h1, h2, h3⟩ := f.at_ i _ _ e
  rw [hs] at e1
  have : V.ref a = v := by simpa using e1
  subst this
  cases hb
  have hie : i < ev.length := (List.getElem?_eq_some_iff.mp e).1
  have ne : ∀ {G : Hp}, G a = none → Same G H → Same G (upd H a o) := fun {G} n s b u q => by
    rw [upd_ne]; exact s b u q
    rintro rfl; rw [n] at q; cases q
  have own : ∀ {m : Nat} {x : D}, (ev.set i (some (Kd.ow, d')))[m]? = some (some (.ow, x)) → ∃ y, ev[m]? = some (some (.ow, y)) := fun {m x} q => by
    by_cases hm : i = m
    · subst hm; exact ⟨d, e⟩
    · rw [List.getElem?_set_ne hm] at q; exact ⟨x, q⟩
  refine ⟨⟨f.st.up, ne h2 f.sub, ne h1 f.st.keep, f.st.new⟩, fun j k d2 q => ?_, fun j l d1 d2 hjl e1 e2 => ?_, by simpa using f.len⟩
  · by_cases hj : i = j
    · subst hj
      rw [List.getElem?_set_self hie] at q
      cases q
      exact ⟨by simp, _, hs, a, rfl, h1, h2, c _ upd_same⟩
    · rw [List.getElem?_set_ne hj] at q
      obtain ⟨n, u, e3, hu⟩ := f.at_ j k d2 q
      refine ⟨n, u, e3, ?_⟩
      cases k with
      | bo => exact absurd rfl n
      | fz => exact hu
      | ow =>
        obtain ⟨b, rfl, g1, g2, g3⟩ := hu
        have hba : b ≠ a := by
          rintro rfl
          exact f.apart i j d d2 hj e q (by rw [hs, e3])
        exact ⟨b, rfl, g1, g2, g3.mono (.refl _) fun o' z => by rw [upd_ne hba]; exact z⟩
  · obtain ⟨y1, z1⟩ := own e1
    obtain ⟨y2, z2⟩ := own e2
    exact f.apart j l y1 y2 hjl z1 z2
end
end L3
set_option Elab.async false
set_option linter.all false
set_option maxRecDepth 100000
namespace L3
open PySem L2
noncomputable def addD : G2
  | .int i, .int j => some (.fz, .int (i + j))
  | .lst xs, .lst ys => if xs.length + ys.length ≤ LIM then some (.ow, .lst (xs ++ ys)) else none
  | .str x, .str y => if x.length + y.length ≤ LIM then some (.fz, .str (x ++ y)) else none
  | _, _ => none
noncomputable def subD : G2
  | .int i, .int j => some (.fz, .int (i - j))
  | _, _ => none
noncomputable def mulL : G2
  | .int i, .int j => if (-(2 ^ 64) < i ∧ i < 2 ^ 64) ∨ (-(2 ^ 64) < j ∧ j < 2 ^ 64) then some (.fz, .int (i * j)) else none
  | .lst xs, .int k => if -(2 ^ 63) ≤ k ∧ k < 2 ^ 63 ∧ xs.length * k.toNat ≤ LIM then some (.ow, .lst (List.replicate k.toNat xs).flatten) else none
  | _, _ => none
noncomputable def fdivD : G2
  | .int i, .int j => if 0 < j ∧ j < 2 ^ 200 then some (.fz, .int (i / j)) else none
  | _, _ => none
noncomputable def modD : G2
  | .int i, .int j => if 0 < j then some (.fz, .int (i % j)) else none
  | _, _ => none
noncomputable def powD : G2
  | .int i, .int j => if 0 ≤ j ∧ j ≤ 1000000 ∧ i.natAbs < 2 ^ 64 then some (.fz, .int (i ^ j.toNat)) else none
  | _, _ => none
noncomputable def ltD : G2
  | .int i, .int j => some (.fz, .bl (decide (i < j)))
  | _, _ => none
noncomputable def leD : G2
  | .int i, .int j => some (.fz, .bl (decide (i ≤ j)))
  | _, _ => none
noncomputable def gtD : G2
  | .int i, .int j => some (.fz, .bl (decide (j < i)))
  | _, _ => none
noncomputable def geD : G2
  | .int i, .int j => some (.fz, .bl (decide (j ≤ i)))
  | _, _ => none
noncomputable def isND : G2
  | .non, .non => some (.fz, .bl true)
  | _, .non => some (.fz, .bl false)
  | _, _ => none
noncomputable def notND : G2
  | .non, .non => some (.fz, .bl false)
  | _, .non => some (.fz, .bl true)
  | _, _ => none
noncomputable def idxL : G2
  | .lst xs, .int i => (atI xs i).map fun d => (.fz, d)
  | .scr xs, .int i => (atI xs i).map fun d => (.fz, d)
  | .tup xs, .int i => (atI xs i).map fun d => (.fz, d)
  | _, _ => none

section
variable {K : PySem.W.Frag} {X : Cx}
noncomputable abbrev rAdd3 : R2 := fun x y H Q => rI0 (fun i j => .int (i + j)) x y H Q ∨ (rCat x y H Q ∨ ∃ i j, x = .str i ∧ y = .str j ∧ i.length + j.length ≤ sizeLine ∧ Q (.str (i ++ j)) H)
theorem op_add3 : OpR X (binaryOp .Add) rAdd3 := op_add.or (op_cat.or op_add_str)
theorem lim_le {n : Nat} (h : n ≤ LIM) : n ≤ sizeLine := Nat.le_trans h sizeLine_ge
theorem ok_add : OkOp K rAdd3 addD := by
  intro F H dx dy x y k d Q s rx ry e q
  unfold addD at e
  split at e <;> first | (cases e; done) | skip
  · rename_i i j
    cases e
    exact .inl ⟨i, j, rx.int, ry.int, q F _ H (.pure (.refl s) (by rw [Rep]))⟩
  rotate_left
  · rename_i i j
    split at e
    · rename_i hl
      cases e
      exact .inr (.inr ⟨i, j, rx.str, ry.str, lim_le hl, q F _ H (.pure (.refl s) (by rw [Rep]))⟩)
    · cases e
  · rename_i xs ys
    split at e
    · rename_i hl
      cases e
      obtain ⟨a, vs, rfl, h1, h2⟩ := rx.lst s
      obtain ⟨b, us, rfl, g1, g2⟩ := ry.lst s
      refine .inr (.inl ⟨a, b, vs, us, rfl, rfl, h1, g1, by rw [← h2.length, ← g2.length]; exact lim_le hl, fun p hp => ?_⟩)
      exact q F _ _ (Post.own (.refl s) hp fun H2 e => ⟨_, e, h2.app g2⟩)
    · cases e
theorem ok_sub : OkOp K (rI0 fun i j => .int (i - j)) subD := by
  intro F H dx dy x y k d Q s rx ry e q
  unfold subD at e
  split at e <;> first | (cases e; done) | skip
  rename_i i j
  cases e
  exact ⟨i, j, rx.int, ry.int, q F _ H (.pure (.refl s) (by rw [Rep]))⟩
noncomputable abbrev rMul2 : R2 := fun x y H Q => rI CMul (fun i j => .int (i * j)) x y H Q ∨ rRep x y H Q
theorem op_mul2 : OpR X (binaryOp .Mult) rMul2 := op_mul.or op_rep
theorem ok_mulL : OkOp K rMul2 mulL := by
  intro F H dx dy x y k d Q s rx ry e q
  unfold mulL at e
  split at e <;> first | (cases e; done) | skip
  · rename_i i j
    split at e
    · rename_i hc
      cases e
      exact .inl ⟨i, j, rx.int, ry.int, hc, q F _ H (.pure (.refl s) (by rw [Rep]))⟩
    · cases e
  · rename_i xs j
    split at e
    · rename_i hc
      cases e
      obtain ⟨a, vs, rfl, h1, h2⟩ := rx.lst s
      refine .inr ⟨a, j, vs, rfl, ry.int, h1, hc.1, hc.2.1, by rw [← h2.length]; exact lim_le hc.2.2, fun p hp => ?_⟩
      exact q F _ _ (Post.own (.refl s) hp fun H2 e => ⟨_, e, h2.rep _⟩)
    · cases e
noncomputable def CDivW (i j : Int) : Prop := 0 < j ∧ j < 2 ^ 200
theorem op_fdivW {X : Cx} : OpR X (binaryOp .FloorDiv) (rI CDivW fun i j => .int (i / j)) := opI fun i j _ _ _ _ _ hc q => by
  have h1 : (0 : Int) < j := hc.1
  have h2 : j < 2 ^ 200 := hc.2
  refine PyProof.Rows.floordiv_int (by omega) (by rw [Int.fdiv_eq_ediv_of_nonneg i (by omega)]; exact q) (.inl (PyProof.noPylong_of_log2 ?_))
  have h3 : j.natAbs < 2 ^ 200 := by omega
  have h4 : j.natAbs.log2 < 200 := (Nat.log2_lt (by omega)).2 h3
  omega
theorem ok_fdiv : OkOp K (rI CDivW fun i j => .int (i / j)) fdivD := by
  intro F H dx dy x y k d Q s rx ry e q
  unfold fdivD at e
  split at e <;> first | (cases e; done) | skip
  rename_i i j
  split at e
  · rename_i hc
    cases e
    exact ⟨i, j, rx.int, ry.int, hc, q F _ H (.pure (.refl s) (by rw [Rep]))⟩
  · cases e
theorem ok_mod : OkOp K (rI (fun _ j => 0 < j) fun i j => .int (i % j)) modD := by
  intro F H dx dy x y k d Q s rx ry e q
  unfold modD at e
  split at e <;> first | (cases e; done) | skip
  rename_i i j
  split at e
  · rename_i hc
    cases e
    exact ⟨i, j, rx.int, ry.int, hc, q F _ H (.pure (.refl s) (by rw [Rep]))⟩
  · cases e
theorem ok_pow : OkOp K (rI CPow fun i j => .int (i ^ j.toNat)) powD := by
  intro F H dx dy x y k d Q s rx ry e q
  unfold powD at e
  split at e <;> first | (cases e; done) | skip
  rename_i i j
  split at e
  · rename_i hc
    cases e
    exact ⟨i, j, rx.int, ry.int, hc, q F _ H (.pure (.refl s) (by rw [Rep]))⟩
  · cases e
theorem ok_lt : OkOp K (rI0 fun i j => .bl (decide (i < j))) ltD := by
  intro F H dx dy x y k d Q s rx ry e q
  unfold ltD at e
  split at e <;> first | (cases e; done) | skip
  rename_i i j
  cases e
  exact ⟨i, j, rx.int, ry.int, q F _ H (.pure (.refl s) (by rw [Rep]))⟩
theorem ok_le : OkOp K (rI0 fun i j => .bl (decide (i ≤ j))) leD := by
  intro F H dx dy x y k d Q s rx ry e q
  unfold leD at e
  split at e <;> first | (cases e; done) | skip
  rename_i i j
  cases e
  exact ⟨i, j, rx.int, ry.int, q F _ H (.pure (.refl s) (by rw [Rep]))⟩
theorem ok_gt : OkOp K (rI0 fun i j => .bl (decide (j < i))) gtD := by
  intro F H dx dy x y k d Q s rx ry e q
  unfold gtD at e
  split at e <;> first | (cases e; done) | skip
  rename_i i j
  cases e
  exact ⟨i, j, rx.int, ry.int, q F _ H (.pure (.refl s) (by rw [Rep]))⟩
theorem ok_ge : OkOp K (rI0 fun i j => .bl (decide (j ≤ i))) geD := by
  intro F H dx dy x y k d Q s rx ry e q
  unfold geD at e
  split at e <;> first | (cases e; done) | skip
  rename_i i j
  cases e
  exact ⟨i, j, rx.int, ry.int, q F _ H (.pure (.refl s) (by rw [Rep]))⟩
theorem RdV.isn {F H : Hp} {d : D} {v : V} (h : RdV K F H d v) : decide (v = .non) = (match d with | .non => true | _ => false) := by
  rcases h with h | ⟨a, rfl, h⟩
  · cases d <;> rw [Rep] at h
    all_goals first
      | (subst h; rfl)
      | (obtain ⟨a, vs, rfl, _⟩ := h; rfl)
      | (obtain ⟨a, C, dx, vs, rfl, _⟩ := h; rfl)
  · cases d <;> first | rfl | exact h.elim
theorem ok_isN : OkOp K (fun x y H Q => y = .non ∧ Q (.bl (decide (x = .non))) H) isND := by
  intro F H dx dy x y k d Q s rx ry e q
  have hn := rx.isn
  unfold isND at e
  split at e
  · cases e; exact ⟨ry.non, by rw [hn]; exact q F _ H (.pure (.refl s) (by rw [Rep]))⟩
  · rename_i h
    cases e
    refine ⟨ry.non, ?_⟩
    have : decide (x = .non) = false := by
      rw [hn]; split
      · exact (h rfl).elim
      · rfl
    rw [this]; exact q F _ H (.pure (.refl s) (by rw [Rep]))
  · cases e
theorem ok_notN : OkOp K (fun x y H Q => y = .non ∧ Q (.bl (!decide (x = .non))) H) notND := by
  intro F H dx dy x y k d Q s rx ry e q
  have hn := rx.isn
  unfold notND at e
  split at e
  · cases e; exact ⟨ry.non, by rw [hn]; exact q F _ H (.pure (.refl s) (by rw [Rep]; rfl))⟩
  · rename_i h
    cases e
    refine ⟨ry.non, ?_⟩
    have : decide (x = .non) = false := by
      rw [hn]; split
      · exact (h rfl).elim
      · rfl
    rw [this]; exact q F _ H (.pure (.refl s) (by rw [Rep]; rfl))
  · cases e
theorem Reps.atI {F : Hp} {ds : List D} {vs : List V} {i : Int} {d : D} (r : Reps K F ds vs) (e : atI ds i = some d) : ∃ v, atI vs i = some v ∧ Rep K F d v := by
  unfold L2.atI at e ⊢
  rw [← r.length]
  cases q : ixN ds.length i with
  | none => rw [q] at e; cases e
  | some j => rw [q] at e; exact r.get e
theorem ok_idxL : OkOp K (rIx K) idxL := by
  intro F H dx dy x y k d Q s rx ry e q
  unfold idxL at e
  split at e <;> first | (cases e; done) | skip
  rotate_right
  · rename_i xs i
    obtain ⟨a, vs, rfl, h1, h2⟩ := rx.tup s
    cases q1 : atI xs i with
    | none => rw [q1] at e; cases e
    | some z =>
      rw [q1] at e; cases e
      obtain ⟨v, e1, rv⟩ := h2.atI q1
      exact .inr (.inl ⟨a, vs, i, v, rfl, ry.int, SqT.of h1, e1, q F _ H (.pure (.refl s) rv)⟩)
  · rename_i xs i
    obtain ⟨a, vs, rfl, h1, h2⟩ := rx.lst s
    cases q1 : atI xs i with
    | none => rw [q1] at e; cases e
    | some z =>
      rw [q1] at e; cases e
      obtain ⟨v, e1, rv⟩ := h2.atI q1
      exact .inl ⟨a, vs, i, v, rfl, ry.int, SqL.of h1, e1, q F _ H (.pure (.refl s) rv)⟩
  · rename_i xs i
    obtain ⟨a, vs, rfl, h1, h2⟩ := rx.scr s
    cases q1 : atI xs i with
    | none => rw [q1] at e; cases e
    | some z =>
      rw [q1] at e; cases e
      obtain ⟨v, e1, rv⟩ := h2.atI q1
      exact .inl ⟨a, vs, i, v, rfl, ry.int, h1, e1, q F _ H (.pure (.refl s) rv)⟩
end
noncomputable def lenL : GN
  | [.lst xs] => some (.fz, .int xs.length)
  | [.scr xs] => some (.fz, .int xs.length)
  | [.tup xs] => some (.fz, .int xs.length)
  | _ => none
noncomputable def min2D : GN
  | [.int i, .int j] => some (.fz, .int (if j < i then j else i))
  | _ => none
noncomputable def max2D : GN
  | [.int i, .int j] => some (.fz, .int (if j > i then j else i))
  | _ => none
noncomputable def listD : GN
  | [.lst xs] => some (.ow, .lst xs)
  | [.scr xs] => some (.ow, .lst xs)
  | [.tup xs] => some (.ow, .lst xs)
  | _ => none
section
variable {K : PySem.W.Frag} {X : Cx}
theorem ok_lenL : OkCall K (fun xs H Q => ∃ p ys, xs = [.ref p] ∧ (SqL K H p ys ∨ SqT K H p ys) ∧ Q (.int ys.length) H) lenL := by
  intro F H ds vs k d Q s r e q
  unfold lenL at e
  split at e
  · obtain ⟨v, _, rfl, rx, rfl⟩ := r
    cases e
    obtain ⟨a, us, rfl, h1, h2⟩ := rx.lst s
    exact ⟨a, us, rfl, .inl (SqL.of h1), q F _ H (.pure (.refl s) (by rw [Rep, h2.length]))⟩
  · obtain ⟨v, _, rfl, rx, rfl⟩ := r
    cases e
    obtain ⟨a, us, rfl, h1, h2⟩ := rx.scr s
    exact ⟨a, us, rfl, .inl h1, q F _ H (.pure (.refl s) (by rw [Rep, h2.length]))⟩
  · obtain ⟨v, _, rfl, rx, rfl⟩ := r
    cases e
    obtain ⟨a, us, rfl, h1, h2⟩ := rx.tup s
    exact ⟨a, us, rfl, .inr (SqT.of h1), q F _ H (.pure (.refl s) (by rw [Rep, h2.length]))⟩
  · cases e
theorem ok_min2 : OkCall K (fun xs H Q => ∃ i j, xs = [.int i, .int j] ∧ Q (.int (if j < i then j else i)) H) min2D := by
  intro F H ds vs k d Q s r e q
  unfold min2D at e
  split at e
  · rename_i i j
    obtain ⟨v, _, rfl, rx, u, _, rfl, ry, rfl⟩ := r
    cases e
    exact ⟨i, j, by rw [rx.int, ry.int], q F _ H (.pure (.refl s) (by rw [Rep]))⟩
  · cases e
theorem ok_max2 : OkCall K (fun xs H Q => ∃ i j, xs = [.int i, .int j] ∧ Q (.int (if j > i then j else i)) H) max2D := by
  intro F H ds vs k d Q s r e q
  unfold max2D at e
  split at e
  · rename_i i j
    obtain ⟨v, _, rfl, rx, u, _, rfl, ry, rfl⟩ := r
    cases e
    exact ⟨i, j, by rw [rx.int, ry.int], q F _ H (.pure (.refl s) (by rw [Rep]))⟩
  · cases e
theorem ok_list : OkCall K (fun xs H Q => ∃ p ys, xs = [.ref p] ∧ (SqL K H p ys ∨ SqT K H p ys) ∧ ∀ l, H l = none → Q (.ref l) (upd H l (.lst ys))) listD := by
  intro F H ds vs k d Q s r e q
  unfold listD at e
  split at e
  · obtain ⟨v, _, rfl, rx, rfl⟩ := r
    cases e
    obtain ⟨a, us, rfl, h1, h2⟩ := rx.lst s
    exact ⟨a, us, rfl, .inl (SqL.of h1), fun l hl => q F _ _ (Post.own (.refl s) hl fun H2 e => ⟨_, e, h2⟩)⟩
  · obtain ⟨v, _, rfl, rx, rfl⟩ := r
    cases e
    obtain ⟨a, us, rfl, h1, h2⟩ := rx.scr s
    exact ⟨a, us, rfl, .inl h1, fun l hl => q F _ _ (Post.own (.refl s) hl fun H2 e => ⟨_, e, h2⟩)⟩
  · obtain ⟨v, _, rfl, rx, rfl⟩ := r
    cases e
    obtain ⟨a, us, rfl, h1, h2⟩ := rx.tup s
    exact ⟨a, us, rfl, .inr (SqT.of h1), fun l hl => q F _ _ (Post.own (.refl s) hl fun H2 e => ⟨_, e, h2⟩)⟩
  · cases e
end
end L3
set_option Elab.async false
set_option linter.all false
set_option maxRecDepth 100000
namespace L3
open PySem L2
noncomputable def eOp (g : G2) (f1 f2 : Ev → R) (ev : Ev) : R := op2 g (f1 ev) (f2 ev)
noncomputable def eAnd (f g : Ev → R) (ev : Ev) : R := andR (f ev) (g ev)
noncomputable def eOr (f g : Ev → R) (ev : Ev) : R := orR (f ev) (g ev)
noncomputable def eNot (f : Ev → R) (ev : Ev) : R := notR (f ev)
noncomputable def aNil (_ : Ev) : RA := .ok []
noncomputable def aCons (f : Ev → R) (fs : Ev → RA) (ev : Ev) : RA := consA (f ev) (fs ev)
noncomputable def eTup (fs : Ev → RA) (ev : Ev) : R := tupR (fs ev)
noncomputable def eLst (fs : Ev → RA) (ev : Ev) : R := lstR (fs ev)
noncomputable def eCall (g : GN) (fs : Ev → RA) (ev : Ev) : R := callR g (fs ev)
noncomputable def iLst (f : Ev → R) (ev : Ev) : RI := itR (f ev)
noncomputable def scalD : D → Bool
  | .non => true
  | .bl _ => true
  | .int _ => true
  | .str _ => true
  | _ => false
noncomputable def fnR (n : Nat) (φ : List D → R) : RA → R
  | .ok l => if l.length = n then (match allFz l with
    | some ds => match φ ds with
      | .ok .fz d => .ok .fz d
      | .ok .ow d => .ok .ow d
      | _ => .no
    | none => match φ (l.map (·.2)) with
      | .ok .bo _ => .no
      | .ok _ d => if scalD d then .ok .fz d else .no
      | _ => .no) else .no
  | .ex C => .ex C
  | .no => .no
noncomputable def eFn (n : Nat) (φ : List D → R) (fs : Ev → RA) (ev : Ev) : R := fnR n φ (fs ev)
noncomputable def ev0 (n : Nat) (ds : List D) : Ev := ds.map (fun d => some (.fz, d)) ++ List.replicate n none
noncomputable def runF (n : Nat) (g : Ev → Fl) (ds : List D) : R := match g (ev0 n ds) with
  | .rt .bo _ => .no
  | .rt k d => .ok k d
  | .nx _ => .ok .fz .non
  | .ex C => .ex C
  | _ => .no
noncomputable def appG (i : Nat) (f : Ev → R) (ev : Ev) : Fl := match ev[i]? with
  | some (some (.ow, .lst ds)) => match f ev with
    | .ok .bo _ => .no
    | .ok _ d => if ds.length < LIM then .nx (ev.set i (some (.ow, .lst (ds ++ [d])))) else .no
    | .ex C => .ex C
    | .no => .no
  | _ => .no
noncomputable def setLG (i : Nat) (f v : Ev → R) (ev : Ev) : Fl := match v ev with
  | .ok .bo _ => .no
  | .ok _ d => match ev[i]? with
    | some (some (.ow, .lst ds)) => match f ev with
      | .ok _ (.int k) => match ixN ds.length k with
        | some j => .nx (ev.set i (some (.ow, .lst (ds.set j d))))
        | none => .no
      | .ex C => .ex C
      | _ => .no
    | _ => .no
  | .ex C => .ex C
  | .no => .no
noncomputable def frzG (i : Nat) (g : Ev → Fl) (ev : Ev) : Fl := g (frzEv i ev)
section
variable {X : Cx} {F0 H0 : Hp} {Ψ : Psi} {a b c e : Expr} {es : List Expr} {f f1 f2 f3 : Ev → R} {fs : Ev → RA} {pos : Pos}
theorem v_var (i : Nat) {x : Str} (hN : X.N[i]? = some x := by rfl) (hv : Vis X.env.scope x := by first | exact Or.inl rfl | exact Or.inr (Or.inl rfl) | exact Or.inr (Or.inr rfl)) (hd : (x == ("__debug__" : Str)) = false := by decide)
    (hcd : (x == ("__classdict__" : Str)) = false := by decide) : VE X F0 H0 Ψ (.Name x pos) (varR i) := (pe_var hN hv hd hcd).mono fun _ _ _ h => tVar_of h
theorem v_int {i j} : VE X F0 H0 Ψ (.Constant (.int i) j pos) (conR (.int i)) := pe_int.mono fun _ _ _ h => tC_of (by rw [Rep]) h
theorem v_bl {i j} : VE X F0 H0 Ψ (.Constant (.bool i) j pos) (conR (.bl i)) := pe_bl.mono fun _ _ _ h => tC_of (by rw [Rep]) h
theorem v_non {j} : VE X F0 H0 Ψ (.Constant .none j pos) (conR .non) := pe_non.mono fun _ _ _ h => tC_of (by rw [Rep]) h
theorem v_str {i j} : VE X F0 H0 Ψ (.Constant (.str i) j pos) (conR (.str i)) := pe_str.mono fun _ _ _ h => tC_of (by rw [Rep]) h
theorem v_bin {op : Operator} {r : R2} {g : G2} (ho : OpR X (binaryOp op) r) (hg : OkOp X.K r g) (ha : VE X F0 H0 Ψ a f1) (hb : VE X F0 H0 Ψ b f2) : VE X F0 H0 Ψ (.BinOp a op b pos) (eOp g f1 f2) := (pe_op ho ha hb).mono fun _ _ _ h => tOp_of hg h
theorem v_add (ha : VE X F0 H0 Ψ a f1) (hb : VE X F0 H0 Ψ b f2) : VE X F0 H0 Ψ (.BinOp a .Add b pos) (eOp addD f1 f2) := v_bin op_add3 ok_add ha hb
theorem v_sub (ha : VE X F0 H0 Ψ a f1) (hb : VE X F0 H0 Ψ b f2) : VE X F0 H0 Ψ (.BinOp a .Sub b pos) (eOp subD f1 f2) := v_bin op_sub ok_sub ha hb
theorem v_fdiv (ha : VE X F0 H0 Ψ a f1) (hb : VE X F0 H0 Ψ b f2) : VE X F0 H0 Ψ (.BinOp a .FloorDiv b pos) (eOp fdivD f1 f2) := v_bin op_fdivW ok_fdiv ha hb
theorem v_mod (ha : VE X F0 H0 Ψ a f1) (hb : VE X F0 H0 Ψ b f2) : VE X F0 H0 Ψ (.BinOp a .Mod b pos) (eOp modD f1 f2) := v_bin op_mod ok_mod ha hb
theorem v_pow (ha : VE X F0 H0 Ψ a f1) (hb : VE X F0 H0 Ψ b f2) : VE X F0 H0 Ψ (.BinOp a .Pow b pos) (eOp powD f1 f2) := v_bin op_pow ok_pow ha hb
noncomputable def CmpOk (X : Cx) (op : CmpOp) (g : G2) : Prop := ∃ r : R2, OpR X (compareOp op) r ∧ OkOp X.K r g
theorem c_lt : CmpOk X .Lt ltD := ⟨_, op_lt, ok_lt⟩
theorem c_le : CmpOk X .LtE leD := ⟨_, op_le, ok_le⟩
theorem c_gt : CmpOk X .Gt gtD := ⟨_, op_gt, ok_gt⟩
theorem c_ge : CmpOk X .GtE geD := ⟨_, op_ge, ok_ge⟩
theorem c_isN : CmpOk X .Is isND := ⟨_, op_isN, ok_isN⟩
theorem c_notN : CmpOk X .IsNot notND := ⟨_, op_notN, ok_notN⟩
theorem v_cmp {op : CmpOp} {g : G2} (hc : CmpOk X op g) (ha : VE X F0 H0 Ψ a f1) (hb : VE X F0 H0 Ψ b f2) (hm : behindInMarks op b = false := by first | exact nomark _ | rfl) : VE X F0 H0 Ψ (.Compare a [op] [b] pos) (eOp g f1 f2) := let ⟨_, ho, hg⟩ := hc; (pe_cmpR ho ha hb hm).mono fun _ _ _ h => tOp_of hg h
theorem vt_cmp {op : CmpOp} {g : G2} (hc : CmpOk X op g) (ha : VE X F0 H0 Ψ a f1) (hb : VE X F0 H0 Ψ b f2) (hm : behindInMarks op b = false := by first | exact nomark _ | rfl) : VT X F0 H0 Ψ (.Compare a [op] [b] pos) (eOp g f1 f2) :=
  let ⟨_, ho, hg⟩ := hc; (pt_cmpR ho ha hb hm).mono fun σ H Q h => by
    obtain ⟨F, ev, fi, m⟩ := h
    exact tOp_of (K := X.K) (F0 := F0) (H0 := H0) (Ψ := Ψ) (f1 := f1) (f2 := f2) hg (Q := fun x H' => ∃ k, x = .bl k ∧ Q k H') (by
      refine ⟨F, ev, fi, ?_⟩
      show match eOp g f1 f2 ev with
        | .ok k d => ∀ F' v H', Post X.K F H k d F' v H' → ∃ k, v = .bl k ∧ Q k H'
        | .ex C => ∀ F' H', Step F0 H0 F' H' → Ψ C H'
        | .no => False
      cases q : eOp g f1 f2 ev with
      | no => rw [q] at m; exact m
      | ex C => rw [q] at m; exact m
      | ok k d =>
        rw [q] at m
        intro F' v H' p
        cases d with
        | bl b => exact ⟨b, p.val.rd.bl, m F' H' p.st⟩
        | _ => exact m.elim)
theorem vt_val (h : VE X F0 H0 Ψ e f) (he : ∀ whole, isTrue e X.env whole = (do let v ← whole; standAt e.pos; holding [v] (truthy v)) := by intro _; rfl) : VT X F0 H0 Ψ e f := (pt_val h he).mono fun _ _ _ q => tB_of q
theorem vw_and1 (h : VT X F0 H0 Ψ a f) : VW X F0 H0 Ψ (.BoolOp .And [a] pos) f := pw_and1 h
theorem vw_or1 (h : VT X F0 H0 Ψ a f) : VW X F0 H0 Ψ (.BoolOp .Or [a] pos) f := pw_or1 h
theorem vw_and {rest : List Expr} (ha : VT X F0 H0 Ψ a f1) (hb : VW X F0 H0 Ψ (.BoolOp .And (b :: rest) pos) f2) : VW X F0 H0 Ψ (.BoolOp .And (a :: b :: rest) pos) (eAnd f1 f2) := (pw_and ha hb).mono fun _ _ _ q => tAnd_of q
theorem vw_or {rest : List Expr} (ha : VT X F0 H0 Ψ a f1) (hb : VW X F0 H0 Ψ (.BoolOp .Or (b :: rest) pos) f2) : VW X F0 H0 Ψ (.BoolOp .Or (a :: b :: rest) pos) (eOr f1 f2) := (pw_or ha hb).mono fun _ _ _ q => tOr_of q
theorem vt_w (h : VW X F0 H0 Ψ e f) : VT X F0 H0 Ψ e f := PW.pt h
theorem vt_not (h : VT X F0 H0 Ψ a f) : VT X F0 H0 Ψ (.UnaryOp .Not a pos) (eNot f) := (pt_not h).mono fun _ _ _ q => tNot_of q
theorem v_one {op} (h : VE X F0 H0 Ψ a f) : VE X F0 H0 Ψ (.BoolOp op [a] pos) f := pe_one h
theorem v_and {rest : List Expr} (ha : VE X F0 H0 Ψ a f1) (hb : VE X F0 H0 Ψ (.BoolOp .And (b :: rest) pos) f2) : VE X F0 H0 Ψ (.BoolOp .And (a :: b :: rest) pos) (eAnd f1 f2) := (pe_and ha hb).mono fun _ _ _ q => tAndV_of q
theorem v_or {rest : List Expr} (ha : VE X F0 H0 Ψ a f1) (hb : VE X F0 H0 Ψ (.BoolOp .Or (b :: rest) pos) f2) : VE X F0 H0 Ψ (.BoolOp .Or (a :: b :: rest) pos) (eOr f1 f2) := (pe_or ha hb).mono fun _ _ _ q => tOrV_of q
theorem va_nil : VA X F0 H0 Ψ [] aNil := pa_nil.mono fun _ _ _ q => tNil_of q
theorem va_cons (ha : VE X F0 H0 Ψ e f) (hr : VA X F0 H0 Ψ es fs) (hs : starEach (e :: es) X.env = (false, eval e X.env) :: starEach es X.env := by rfl) : VA X F0 H0 Ψ (e :: es) (aCons f fs) := (pa_cons ha hr hs).mono fun _ _ _ q => tCons_of q
theorem v_tup {x1} (h : VA X F0 H0 Ψ es fs) : VE X F0 H0 Ψ (.Tuple es x1 pos) (eTup fs) := (pe_tup h).mono fun _ _ _ q => tTup_of q
theorem v_lst (h : VA X F0 H0 Ψ es fs) : VE X F0 H0 Ψ (.List es pos) (eLst fs) := (pe_lst h).mono fun _ _ _ q => tLst_of q
theorem v_callB {x : Str} {p : Pos} {id : String} {r : List V → Hp → VK → Prop} {g : GN} (hc : CallR X (.builtin id) r) (hg : OkCall X.K r g) (hm : X.mg x = none) (hv : bootBuiltins x = some (.builtin id)) (ha : VA X F0 H0 Ψ (e :: es) fs) (hgl : Gl X x := by rfl)
    (hn : x ≠ "__name__" := by decide) (hdb : (x == ("__debug__" : Str)) = false := by decide)
    (he : starEach (e :: es) X.env = (false, eval e X.env) :: starEach es X.env := by rfl) (hpl : (backTo pos (starEach es X.env)).any (·.1) = false := by rfl) : VE X F0 H0 Ψ (.Call (.Name x p) (e :: es) [] pos) (eCall g fs) := (pe_callB hc hgl hm hv ha hn hdb he hpl).mono fun _ _ _ q => tCB_of hg q
theorem v_callT {x : Str} {p : Pos} {T : String} {r : List V → Hp → VK → Prop} {g : GN} (hc : CallR X (.type T) r) (hg : OkCall X.K r g) (hm : X.mg x = none) (hv : bootBuiltins x = some (.type T)) (ha : VA X F0 H0 Ψ (e :: es) fs) (hgl : Gl X x := by rfl)
    (hn : x ≠ "__name__" := by decide) (hdb : (x == ("__debug__" : Str)) = false := by decide)
    (he : starEach (e :: es) X.env = (false, eval e X.env) :: starEach es X.env := by rfl) (hpl : (backTo pos (starEach es X.env)).any (·.1) = false := by rfl) : VE X F0 H0 Ψ (.Call (.Name x p) (e :: es) [] pos) (eCall g fs) := (pe_callTy hc hgl hm hv ha hn hdb he hpl).mono fun _ _ _ q => tCB_of hg q
theorem v_lenL {p : Pos} (hm : X.mg "len" = none) (ha : VA X F0 H0 Ψ [e] fs) (hgl : Gl X "len" := by rfl) (he : starEach [e] X.env = (false, eval e X.env) :: starEach [] X.env := by rfl) : VE X F0 H0 Ψ (.Call (.Name "len" p) [e] [] pos) (eCall lenL fs) := v_callB call_len_seq ok_lenL hm PySem.boot_len ha hgl (by decide) (by decide) he
theorem v_list {p : Pos} (hm : X.mg "list" = none) (ha : VA X F0 H0 Ψ [e] fs) (hgl : Gl X "list" := by rfl) (he : starEach [e] X.env = (false, eval e X.env) :: starEach [] X.env := by rfl) : VE X F0 H0 Ψ (.Call (.Name "list" p) [e] [] pos) (eCall listD fs) := v_callT call_list_of ok_list hm (by rfl) ha hgl (by decide) (by decide) he

variable {st : Stmt} {rest body orelse : List Stmt} {g h : Ev → Fl}
theorem vs_nil : VSs X F0 H0 Ψ [] .nx := pss_nil.mono fun _ _ _ q => tNext_of q
theorem vs_cons (h1 : VS X F0 H0 Ψ st g) (h2 : VSs X F0 H0 Ψ rest h) : VSs X F0 H0 Ψ (st :: rest) (seqG g h) := (pss_cons h1 h2).mono fun _ _ _ q => tSeq_of q
theorem vs_one (h1 : VS X F0 H0 Ψ st g) : VSs X F0 H0 Ψ [st] g := pss_one h1
theorem vs_continue : VS X F0 H0 Ψ (.Continue pos) .ct := ps_continue.mono fun _ _ _ q => tCont_of q
theorem vs_expr (he : VE X F0 H0 Ψ e f) (hs : swapsWith e none pos.line X.env = pure false := by rfl) : VS X F0 H0 Ψ (.Expr e pos) (dropG f) := (ps_expr he hs).mono fun _ _ _ q => tDrop_of q
theorem vs_ret (he : VE X F0 H0 Ψ e f) : VS X F0 H0 Ψ (.Return (some e) pos) (retG f) := (ps_ret he).mono fun _ _ _ q => tRet_of q
theorem vs_retv (i : Nat) {x : Str} {p : Pos} (hN : X.N[i]? = some x := by rfl) (hv : Vis X.env.scope x := by first | exact Or.inl rfl | exact Or.inr (Or.inl rfl) | exact Or.inr (Or.inr rfl)) (hd : (x == ("__debug__" : Str)) = false := by decide)
    (hcd : (x == ("__classdict__" : Str)) = false := by decide) : VS X F0 H0 Ψ (.Return (some (.Name x p)) pos) (retVarG i) := (ps_ret (pe_var hN hv hd hcd)).mono fun _ _ _ q => tRetVar_of q
theorem vs_if (hc : VT X F0 H0 Ψ c f) (ha : VSs X F0 H0 Ψ body g) (hb : VSs X F0 H0 Ψ orelse h) : VS X F0 H0 Ψ (.If c body orelse pos) (ifG f g h) := (ps_if hc ha hb).mono fun _ _ _ q => tIfS_of q
theorem vs_set (i : Nat) {x : Str} {pos' : Pos} (hN : X.N.Nodup) (he : VE X F0 H0 Ψ e f) (hi : X.N[i]? = some x := by rfl) (hx : Loc X.env.scope x := by first | exact Or.inl rfl | exact Or.inr rfl) (hs : swapsWith e (some (.Name x pos')) pos.line X.env = pure false := by rfl)
    (hf : X.fn x = true ∨ X.env.scope.names.lookup x = some .local := by first | exact .inl rfl | exact .inr rfl) : VS X F0 H0 Ψ (.Assign [.Name x pos'] e pos) (setG i f) := (ps_set hN hi hx he hs hf).mono fun _ _ _ q => tSet_of q
noncomputable def VG (X : Cx) (F0 H0 : Hp) (t : Expr) (b : B1) : Prop := PG X t (gV X.K F0 H0 b)
noncomputable def VGs (X : Cx) (F0 H0 : Hp) (ts : List Expr) (b : BN) : Prop := PGs X ts (gVs X.K F0 H0 b)
theorem vg_name (i : Nat) {x : Str} (hN : X.N.Nodup) (hi : X.N[i]? = some x := by rfl) (hx : Loc X.env.scope x := by first | exact Or.inl rfl | exact Or.inr rfl)
    (hf : X.fn x = true ∨ X.env.scope.names.lookup x = some .local := by first | exact .inl rfl | exact .inr rfl) : VG X F0 H0 (.Name x pos) (bName i) := (pg_name hN hi hx hf).mono fun _ _ _ _ q => gName_of q
theorem vg_nil : VGs X F0 H0 [] bNil := pgs_nil.mono fun _ _ _ _ q => gNil_of q
theorem vg_cons {t : Expr} {ts : List Expr} {b1 : B1} {bn : BN} (h1 : VG X F0 H0 t b1) (h2 : VGs X F0 H0 ts bn) (hs : (assignEach (t :: ts) X.env).map (·.2) = assign t X.env :: (assignEach ts X.env).map (·.2) := by rfl) : VGs X F0 H0 (t :: ts) (bCons b1 bn) := (pgs_cons h1 h2 hs).mono fun _ _ _ _ q => gCons_of q
theorem vg_tup {ts : List Expr} {k n : Nat} {bn : BN} (hc : X.calm = true) (h : VGs X F0 H0 ts bn) (hn : (assignEach ts X.env).length = n := by rfl) (hst : (assignEach ts X.env).findIdx? (·.1) = none := by rfl) : VG X F0 H0 (.Tuple ts k pos) (bTup n bn) := (pg_tup hc h hn hst).mono fun _ _ _ _ q => gTup_of q
theorem vs_asg {t : Expr} {b1 : B1} (he : VE X F0 H0 Ψ e f) (hg : VG X F0 H0 t b1) (hs : swapsWithSole [t] e pos.line X.env = pure false := by rfl) (hw : swappedStores [t] e X.env = pure none := by rfl)
    (h1 : (assignEach [t] X.env).map (·.2) = [assign t X.env] := by rfl) : VS X F0 H0 Ψ (.Assign [t] e pos) (asgG b1 f) := (ps_asg he hg hs hw h1).mono fun _ _ _ q => tAsg_of q
variable {tg iter : Expr} {fi : Ev → RI}
theorem vi_list (h : VE X F0 H0 Ψ e f) : VI X F0 H0 Ψ tg e (iLst f) := (pi_list h).mono fun _ _ _ q => iList_of q
theorem vs_for {b1 : B1} (hp : PassesOwn (model X.prog X.w) X.A X.env X.xe) (hc : X.calm = true) (hi : VI X F0 H0 Ψ tg iter fi) (hg : VG X F0 H0 tg b1) (hb : VSs X F0 H0 Ψ body g) (hs : ∀ x, foldedSetIterable iter X.env x = pure x := by intro _; rfl) :
    VS X F0 H0 Ψ (.For tg iter body [] pos) (forG fi b1 g) := (ps_for hp hc hi hg hb hs).mono fun _ _ _ q => tFor_of q
theorem vs_frz (i : Nat) {sts : List Stmt} (h : VSs X F0 H0 Ψ sts g) : VSs X F0 H0 Ψ sts (frzG i g) := h.mono fun E σ H q => by
  obtain ⟨F, ev, fi, m⟩ := q
  obtain ⟨F', s, fi'⟩ := fi.frz i
  exact ⟨F', frzEv i ev, fi', FlowTo.mono m s⟩
end
end L3
set_option Elab.async false
set_option linter.all false
set_option maxRecDepth 100000
namespace L3
open PySem L2
section
variable {X : Cx} {K : PySem.W.Frag} {F0 H0 F H F' H' : Hp} {Ψ : Psi} {σ : St} {ev : Ev}
theorem FI.ow {i : Nat} {ds : List D} (fi : FI K F0 H0 F H ev σ) (e : ev[i]? = some (some (.ow, .lst ds))) : ∃ a vs, σ[i]? = some (some (.ref a)) ∧ H a = some (.lst vs) ∧ Reps K F ds vs := by
  obtain ⟨_, v, e1, a, rfl, h1, h2, vs, h3, h4⟩ := fi.at_ i _ _ e
  exact ⟨a, vs, e1, h3, h4⟩
theorem tApp_of {i : Nat} {f : Ev → R} {E : Ends} (q : tSv K F0 H0 Ψ (appG i f) E σ H) : tDrop (tBM K "list" rAppend (tVar i) (tCons (tV K F0 H0 Ψ f) tNil)) E σ H := by
  obtain ⟨F, ev, fi, m⟩ := q
  unfold appG at m
  split at m
  · rename_i ds e
    obtain ⟨a, vs, e1, h1, h2⟩ := fi.ow e
    refine ⟨.ref a, e1, .inl ⟨rfl, vs, SqL.of h1⟩, F, ev, fi, ?_⟩
    cases h3 : f ev with
    | no => rw [h3] at m; exact m
    | ex C => rw [h3] at m; exact m
    | ok k d =>
      rw [h3] at m
      intro F1 y H1 p
      have go : ∀ F2, Post K F H .fz d F2 y H1 → FlowTo K F0 H0 Ψ F E (if ds.length < LIM then .nx (ev.set i (some (.ow, .lst (ds ++ [d])))) else .no) → rAppend (.ref a) [y] H1 fun _ H1 => E.nx σ H1 := fun F2 p2 m => by
        by_cases hl : ds.length < LIM
        · rw [if_pos hl] at m
          refine ⟨a, vs, y, rfl, rfl, p2.st.keep _ _ h1, by rw [← h2.length]; exact Nat.lt_of_lt_of_le hl sizeLine_ge, ?_⟩
          exact m F2 _ σ p2.st.up ((fi.later p2.st).mut e e1 fun H2 z => ⟨_, z, (h2.mono p2.st.up).app (.cons p2.val .nil)⟩)
        · rw [if_neg hl] at m; exact m.elim
      cases k with
      | bo => exact m.elim
      | fz => exact go F1 p m
      | ow => obtain ⟨F2, p2⟩ := p.frz; exact go F2 p2 m
  · exact m.elim
theorem tSetLIt_of {i : Nat} {f v : Ev → R} {E : Ends} (q : tSv K F0 H0 Ψ (setLG i f v) E σ H) : tAsg (tV K F0 H0 Ψ v) (gSub (tVar i) (tV K F0 H0 Ψ f) rSetL) E σ H := by
  obtain ⟨F, ev, fi, m⟩ := q
  refine ⟨F, ev, fi, ?_⟩
  unfold setLG at m
  cases h3 : v ev with
  | no => rw [h3] at m; exact m
  | ex C => rw [h3] at m; exact m
  | ok k d =>
    rw [h3] at m
    intro F1 y H1 p
    have go : ∀ F2, Post K F H .fz d F2 y H1 → FlowTo K F0 H0 Ψ F E (match ev[i]? with
      | some (some (.ow, .lst ds)) => match f ev with
        | .ok _ (.int k) => match ixN ds.length k with
          | some j => .nx (ev.set i (some (.ow, .lst (ds.set j d))))
          | none => .no
        | .ex C => .ex C
        | _ => .no
      | _ => .no) → gSub (tVar i) (tV K F0 H0 Ψ f) rSetL y σ H1 E.nx := fun F2 p2 m => by
      split at m
      · rename_i ds e
        obtain ⟨a, vs, e1, h1, h2⟩ := fi.ow e
        refine ⟨.ref a, e1, F2, ev, fi.later p2.st, ?_⟩
        cases h4 : f ev with
        | no => rw [h4] at m; exact m
        | ex C => rw [h4] at m; exact m
        | ok k' d' =>
          rw [h4] at m
          intro F3 z H3 p3
          cases d' with
          | int n =>
            dsimp only at m
            cases h5 : ixN ds.length n with
            | none => rw [h5] at m; exact m.elim
            | some j =>
              rw [h5] at m
              have st := p2.st.trans p3.st
              refine ⟨a, vs, n, j, rfl, p3.val.rd.int, st.keep _ _ h1, by rw [← h2.length]; exact h5, ?_⟩
              exact m F3 _ σ st.up ((fi.later st).mut e e1 fun H2 z => ⟨_, z, (h2.mono st.up).set (p2.val.later p3.st) j⟩)
          | _ => exact m.elim
      · exact m.elim
    cases k with
    | bo => exact m.elim
    | fz => exact go F1 p m
    | ow => obtain ⟨F2, p2⟩ := p.frz; exact go F2 p2 m
variable {e i' : Expr} {f v : Ev → R} {x : Str} {p apos cpos pos : Pos}
theorem vs_app (i : Nat) (he : VE X F0 H0 Ψ e f) (hN : X.N[i]? = some x := by rfl) (hv : Vis X.env.scope x := by first | exact Or.inl rfl | exact Or.inr (Or.inl rfl) | exact Or.inr (Or.inr rfl)) (hd : (x == ("__debug__" : Str)) = false := by decide)
    (hcd : (x == ("__classdict__" : Str)) = false := by decide) (hbase : attributeBase (.Name x p) "append" X.env (eval (.Name x p) X.env) = eval (.Name x p) X.env := by rfl)
    (hfew : ((backTo cpos (starEach [e] X.env)).all (fun x => !x.1) && (backToKw cpos (keywordEach [] X.env)).all (fun x => x.1.isSome)
      && decide ([e].length + ([] : List Keyword).length + (if ([] : List Keyword).isEmpty then 0 else 1) < 30)) = true := by rfl)
    (hline : (apos.endLine == cpos.line) = true := by rfl) (hs : starEach [e] X.env = (false, eval e X.env) :: starEach [] X.env := by rfl) (hplain : (backTo cpos (starEach [] X.env)).any (·.1) = false := by rfl)
    (hsw : swapsWith (.Call (.Attribute (.Name x p) "append" apos) [e] [] cpos) none pos.line X.env = pure false := by rfl) :
    VS X F0 H0 Ψ (.Expr (.Call (.Attribute (.Name x p) "append" apos) [e] [] cpos) pos) (appG i f) :=
  (ps_expr (pe_bm PySem.F.plainAttrs_list PySem.F.slot_list_append PySem.F.type_list_append mt_append (pe_var hN hv hd hcd) (pa_cons he pa_nil hs) hbase hfew hline hs hplain) hsw).mono fun _ _ _ q => tApp_of q
end
noncomputable def spV0 (K : PySem.W.Frag) (φ : List D → R) (n : Nat) : Sp := fun vs H Q _ => ∃ F ds, Same F H ∧ Reps K F ds vs ∧ ds.length = n ∧ match φ ds with
  | .ok k d => k ≠ .bo ∧ ∀ F' v H', Post K F H k d F' v H' → Q v H'
  | _ => False
noncomputable abbrev Psi0 : Psi := fun _ _ => False
structure Callee (P : Program) (w : World) (K : PySem.W.Frag) (mg : Str → Option Value) (base : Heap) (k : Nat) (x : Str) (n : Nat) (φ : List D → R) : Prop where
  ex : ∃ f fd ps, FnOk P w K mg base CX0 k f fd ps (spV0 K φ n) ∧ Binds K fd ps [] ∧ mg x = some (.ref f) ∧ PySem.W.keepIn K (.ref f) = true
section
variable {X : Cx} {F0 H0 : Hp} {Ψ : Psi} {k n : Nat} {x : Str} {φ : List D → R} {p pos : Pos} {e : Expr} {es : List Expr} {fs : Ev → RA}
theorem scal_rep {K : PySem.W.Frag} {F F' H : Hp} {d : D} {v : V} (s : scalD d = true) (h : RdV K F H d v) : Rep K F' d v := by
  cases d <;> first | cases s | skip
  · rw [Rep]; exact h.non
  · rw [Rep]; exact h.bl
  · rw [Rep]; exact h.int
  · rw [Rep]; exact h.str
theorem v_fn (C : Callee X.prog X.w X.K X.mg X.base k x n φ) (hr : Room k X.A) (ha : VA X F0 H0 Ψ (e :: es) fs) (hg : Gl X x := by rfl) (hdb : (x == ("__debug__" : Str)) = false := by decide)
    (he : starEach (e :: es) X.env = (false, eval e X.env) :: starEach es X.env := by rfl) (hpl : (backTo pos (starEach es X.env)).any (·.1) = false := by rfl) :
    VE X F0 H0 Ψ (.Call (.Name x p) (e :: es) [] pos) (eFn n φ fs) := by
  obtain ⟨f, fd, ps, Fk, hb, hm, hk⟩ := C.ex
  refine (pe_call (E := E0) (dvs := []) (ds := []) Fk hr hg hm hk hb .nil pass0 ha hdb he hpl).mono fun σ H Q h => ?_
  obtain ⟨F, ev, fi, m⟩ := h
  refine ⟨F, ev, fi, ?_⟩
  unfold eFn at m
  cases h1 : fs ev with
  | no => rw [h1] at m; exact m
  | ex C => rw [h1] at m; exact m
  | ok l =>
    rw [h1] at m
    intro F1 vs H1 s va
    rw [List.append_nil]
    simp only [fnR] at m
    by_cases hn : l.length = n
    · rw [if_pos hn] at m
      cases h2 : allFz l with
      | some ds =>
        rw [h2] at m
        dsimp only at m
        have rs := va.fz h2
        refine ⟨F1, ds, s.sub, rs, by rw [rs.length, ← va.length]; exact hn, ?_⟩
        cases h3 : φ ds with
        | no => rw [h3] at m; exact m
        | ex C => rw [h3] at m; exact m
        | ok k' d =>
          rw [h3] at m
          cases k' with
          | bo => exact m.elim
          | fz => exact ⟨by simp, fun F' v H' p => m F' v H' ⟨s.trans p.st, p.val.early s.keep⟩⟩
          | ow => exact ⟨by simp, fun F' v H' p => m F' v H' ⟨s.trans p.st, p.val.early s.keep⟩⟩
      | none =>
        rw [h2] at m
        dsimp only at m
        have rs := va.rds s.sub
        refine ⟨H1, l.map (·.2), .refl _, rs, by simpa using hn, ?_⟩
        cases h3 : φ (l.map (·.2)) with
        | no => rw [h3] at m; exact m
        | ex C => rw [h3] at m; exact m
        | ok k' d =>
          rw [h3] at m
          have go : k' ≠ .bo → (match (if scalD d = true then R.ok .fz d else .no) with
            | .ok k d => ∀ F' v H', Post X.K F H k d F' v H' → Q v H'
            | .ex C => ∀ F' H', Step F0 H0 F' H' → Ψ C H'
            | .no => False) → k' ≠ .bo ∧ ∀ F' v H', Post X.K H1 H1 k' d F' v H' → Q v H' := fun nb m => by
            by_cases hs : scalD d = true
            · rw [if_pos hs] at m
              exact ⟨nb, fun F' v H' p => m F1 v H' ⟨s.trans ⟨.refl _, s.sub.trans p.st.keep, p.st.keep, fun a o e => .inl e⟩, scal_rep hs p.val.rd⟩⟩
            · rw [if_neg hs] at m; exact m.elim
          cases k' with
          | bo => exact m.elim
          | fz => exact go (by simp) m
          | ow => exact go (by simp) m
    · rw [if_neg hn] at m; exact m.elim
end
section
variable {P : Program} {w : World} {K : PySem.W.Frag} {mg : Str → Option Value} {base : Heap}
theorem FI.start {F H : Hp} {N : List Str} {ds : List D} {vs : List V} (s : Same F H) (r : Reps K F ds vs) : FI K F H F H (ev0 (N.length - ds.length) ds) (start N vs) := by
  refine ⟨.refl s, fun i k d e => ?_, fun i j d e hij e1 e2 => ?_, ?_⟩
  · unfold ev0 at e
    by_cases hi : i < ds.length
    · rw [List.getElem?_append_left (by simpa using hi), List.getElem?_map] at e
      cases q : ds[i]? with
      | none => rw [q] at e; cases e
      | some z =>
        rw [q] at e; cases e
        obtain ⟨v, e1, rv⟩ := r.get q
        refine ⟨by simp, v, ?_, rv⟩
        unfold L2.start
        rw [List.getElem?_append_left (by rw [List.length_map, ← r.length]; exact hi), List.getElem?_map, e1]
        rfl
    · rw [List.getElem?_append_right (by simpa using hi), List.getElem?_replicate] at e
      split at e <;> cases e
  · exfalso
    unfold ev0 at e1
    by_cases hi : i < ds.length
    · rw [List.getElem?_append_left (by simpa using hi), List.getElem?_map] at e1
      cases q : ds[i]? with
      | none => rw [q] at e1; cases e1
      | some z => rw [q] at e1; cases e1
    · rw [List.getElem?_append_right (by simpa using hi), List.getElem?_replicate] at e1
      split at e1 <;> cases e1
  · unfold ev0 L2.start
    simp only [List.length_append, List.length_map, List.length_replicate, r.length]
theorem fn_ok {x qual : Str} {st : Stmt} {f : Addr} {fd : FuncData} {N ps : List Str} {k : Nat} {g : Ev → Fl} (F : Fun K x qual st f fd) (S : FnScope N ps (defScope st))
    (hb : ∀ (cdv : Value) (A : Around) (outer : List Env) (s : Shared) (H : Hp) (E : XK) (F0 : Hp), Room k (A.deeper (PyProof.Rows.envOfC qual (defScope st) s.heap.objs.size f cdv)) →
      VSs (cxOf CX0 P w K mg base N qual (defScope st) f cdv A outer s H E).nox F0 H Psi0 (defBody st) g) :
    FnOk P w K mg base CX0 (k + 1) f fd ps (spV0 K (runF (N.length - ps.length) g) ps.length) := by
  refine F.ok S (fun vs H Q E h => ?_) (fun cdv A outer s H vs Q E hr h => ?_)
  · obtain ⟨F, ds, _, r, hl, _⟩ := h
    rw [← r.length]; exact hl
  · obtain ⟨F, ds, sub, r, hl, m⟩ := h
    refine ⟨_, hb cdv A outer s H E F hr, F, ev0 (N.length - ps.length) ds, by rw [← hl]; exact .start sub r, ?_⟩
    unfold runF at m
    cases q : g (ev0 (N.length - ps.length) ds) with
    | nx ev => rw [q] at m; exact fun F' H' σ' _ fi => m.2 F' .non H' ⟨fi.st, by rw [Val, Rep]⟩
    | rt k d =>
      rw [q] at m
      cases k with
      | bo => exact m.elim
      | fz => exact m.2
      | ow => exact m.2
    | bk ev => rw [q] at m; exact m.elim
    | ct ev => rw [q] at m; exact m.elim
    | ex C => rw [q] at m; exact m.elim
    | no => rw [q] at m; exact m.elim
end
end L3
set_option Elab.async false
set_option linter.all false
set_option maxRecDepth 100000
namespace L2
open PySem PySem.Spec PyProof.Rows
section
variable {prog : Program} {w : World} {A : Around} {R : Result → Shared → Prop} {s : Shared}
theorem compLoop_any {elt target iter : Expr} {ifs : List Expr} {scope : Scope} {pos : Pos} {it acc : Value} {env : Env} (I : Nat → Shared → Prop)
    (turn : ∀ n s, I n s → wpAny (model prog w) A (pyNext it) (fun r s₁ => match r with
      | none => R (.ok .next) s₁
      | some v => wpAny (model prog w) A (letOwnedTupleGo target it v) (fun _ s₂ => wpAny (model prog w) A (assign target env v) (fun _ s₃ =>
          wpAny (model prog w) A (forIn ifs true fun c r => if r = true then do let ok ← isTrue c env (eval c env); pure (ForInStep.yield ok) else pure (ForInStep.yield r)) (fun ok s₄ =>
            if ok = true then wpAny (model prog w) A (eval elt env) (fun x s₅ =>
              wpAny (model prog w) A (call (.builtin "list.append") [acc, x]) (fun _ s₆ => ∃ m, m < n ∧ I m s₆) (fun _ _ => False) s₅) (fun _ _ => False) s₄
            else ∃ m, m < n ∧ I m s₄) (fun _ _ => False) s₃) (fun _ _ => False) s₂) (fun _ _ => False) s₁) (fun _ _ => False) s)
    (n : Nat) (h : I n s) : codeAny (model prog w) A (.compLoop (.ListComp elt [⟨target, iter, ifs, 0⟩] scope pos) 0 it acc env) R s := by
  refine codeAny_loop rfl I (fun n s hI => ?_) n h
  show wpAny _ A ((compTurn (.ListComp elt [⟨target, iter, ifs, 0⟩] scope pos) 0 it acc env).onRaise (fun x => do noteFrame x env; theTreesLotGoes x)) _ _ s
  refine wpAny_noted ?_
  rw [compTurn_list]
  refine wpAny_bind (wpAny_standAt (wpAny_bind (wpAny_mono (turn n s hI) (fun r s₁ h₁ => ?_) fun _ _ h' => h'.elim)))
  cases r with
  | none => exact wpAny_pure h₁
  | some v =>
    refine wpAny_bind (wpAny_mono h₁ (fun _ s₂ h₂ => ?_) fun _ _ h' => h'.elim)
    refine wpAny_bind (wpAny_mono h₂ (fun _ s₃ h₃ => wpAny_bind (wpAny_mono h₃ (fun ok s₄ h₄ => ?_) fun _ _ h' => h'.elim)) fun _ _ h' => h'.elim)
    cases ok with
    | false => exact wpAny_pure ⟨rfl, h₄⟩
    | true =>
      exact wpAny_bind (wpAny_bind (wpAny_mono h₄ (fun x s₅ h₅ => wpAny_bind (wpAny_mono h₅ (fun _ s₆ h₆ => wpAny_pure (wpAny_pure ⟨rfl, h₆⟩)) fun _ _ h' => h'.elim)) fun _ _ h' => h'.elim))
end
noncomputable def PIfs (X : Cx) (ifs : List Expr) (t : TT) : Prop :=
  ∀ (pins : List (Addr × Obj)) (s : Shared) (σ : St) (H : Hp) (Q : Bool → Hp → Prop), Inv X pins σ H s → t σ H Q →
    wpAny (model X.prog X.w) X.A (forIn ifs true fun c r => if r = true then do let ok ← isTrue c X.env (eval c X.env); pure (ForInStep.yield ok) else pure (ForInStep.yield r)) (TP X pins σ Q) X.xe s
theorem pifs_nil {X : Cx} : PIfs X [] (fun _ H Q => Q true H) := fun _ _ _ H _ I h => wpAny_tests_nil ⟨H, I, h⟩
theorem pifs_one {X : Cx} {c : Expr} {t : TT} (h : PT X c t) : PIfs X [c] t := fun pins s σ H Q I q => wpAny_tests_one (h pins s σ H Q I q)

noncomputable def closOf (env : Env) : List (Str × NameKind) → List (Str × Addr) → List (Str × Addr)
  | [], acc => acc
  | (n, k) :: r, acc => closOf env r (if k == .free then (n, (env.cells.lookup n).getD 0) :: acc else acc)
theorem closOf_lookup {env : Env} {x : Str} {c : Addr} : ∀ (l : List (Str × NameKind)) (acc : List (Str × Addr)), (closOf env l acc).lookup x = some c →
    (∃ k, (x, k) ∈ l ∧ k = .free ∧ (env.cells.lookup x).getD 0 = c) ∨ acc.lookup x = some c
  | [], acc, h => .inr h
  | (n, k) :: r, acc, h => by
    rcases closOf_lookup r _ h with ⟨k', h1, h2, h3⟩ | h1
    · exact .inl ⟨k', .tail _ h1, h2, h3⟩
    · by_cases hk : (k == NameKind.free) = true
      · rw [if_pos hk, List.lookup_cons] at h1
        by_cases hx : (x == n) = true
        · simp only [hx] at h1
          have e : x = n := by simpa using hx
          subst e
          exact .inl ⟨k, .head _, by simpa using hk, Option.some.inj h1⟩
        · simp only [hx] at h1; exact .inr h1
      · rw [if_neg hk] at h1; exact .inr h1
theorem closOf_has {env : Env} {x : Str} : ∀ (l : List (Str × NameKind)) (acc : List (Str × Addr)), (x, NameKind.free) ∈ l ∨ (acc.lookup x).isSome = true → ∃ c, (closOf env l acc).lookup x = some c
  | [], acc, h => by
    rcases h with h | h
    · cases h
    · exact Option.isSome_iff_exists.mp h
  | (n, k) :: r, acc, h => by
    refine closOf_has r _ ?_
    rcases h with h | h
    · rcases List.mem_cons.mp h with e | h
      · cases e
        right
        simp [List.lookup_cons]
      · exact .inl h
    · right
      by_cases hk : (k == NameKind.free) = true
      · rw [if_pos hk, List.lookup_cons]
        by_cases hx : (x == n) = true
        · simp [hx]
        · simp only [hx]; exact h
      · rw [if_neg hk]; exact h
theorem closureFor_of {scope : Scope} {env : Env} (h : ∀ y ∈ scope.names, y.2 = .free → ∃ c, env.cells.lookup y.1 = some c) : closureFor scope env = pure (closOf env scope.names []) := by
  have key : ∀ (l : List (Str × NameKind)) (acc : List (Str × Addr)), (∀ y ∈ l, y.2 = .free → ∃ c, env.cells.lookup y.1 = some c) →
      (forIn l acc fun (x : Str × NameKind) (cs : List (Str × Addr)) => (match x with | (name, kind) => if (kind == NameKind.free) = true then (do let c ← cellOf env name; pure (ForInStep.yield ((name, c) :: cs))) else pure (ForInStep.yield cs) : Sem (ForInStep (List (Str × Addr))))) = pure (closOf env l acc) := by
    intro l
    induction l with
    | nil => intro acc _; rfl
    | cons x r ih =>
      intro acc hl
      obtain ⟨n, k⟩ := x
      rw [List.forIn_cons]
      by_cases hk : (k == NameKind.free) = true
      · obtain ⟨c, hc⟩ := hl (n, k) (.head _) (by simpa using hk)
        have e : cellOf env n = pure c := by unfold cellOf; rw [hc]
        simp only [hk, if_true, e, pure_bind, closOf]
        rw [ih _ fun y hy => hl y (.tail _ hy)]
        dsimp only at hc
        rw [hc]
        rfl
      · simp only [hk, Bool.false_eq_true, if_false, pure_bind, closOf]
        exact ih _ fun y hy => hl y (.tail _ hy)
  unfold closureFor
  have := key scope.names [] h
  exact (congrArg (fun m => m >>= fun cs => pure cs) this).trans rfl
theorem relabel_lookup {env : Env} {x : Str} : ∀ {names : List (Str × NameKind)} {k : NameKind}, (names.map fun (n, k) => if (k == NameKind.free && env.scope.kind == .function && env.kindOf n == some .cell) then (n, NameKind.cell) else (n, k)).lookup x = some k →
    names.lookup x = some k ∨ (k = .cell ∧ names.lookup x = some .free)
  | [], _, h => by simp at h
  | (n, k0) :: r, k, h => by
    have ih := @relabel_lookup env x r k
    rw [List.map_cons] at h
    by_cases hx : (x == n) = true
    · by_cases hc : (k0 == NameKind.free && env.scope.kind == .function && env.kindOf n == some .cell) = true
      · simp only [hc, if_true, List.lookup_cons, hx] at h
        have hf : k0 = .free := by simp at hc; exact hc.1.1
        exact .inr ⟨(Option.some.inj h).symm, by simp [List.lookup_cons, hx, hf]⟩
      · simp only [hc, if_false, List.lookup_cons, hx] at h
        exact .inl (by simpa [List.lookup_cons, hx] using h)
    · by_cases hc : (k0 == NameKind.free && env.scope.kind == .function && env.kindOf n == some .cell) = true
      · rw [show (match ((n, k0) : Str × NameKind) with | (n, k) => if (k == NameKind.free && env.scope.kind == .function && env.kindOf n == some .cell) = true then (n, NameKind.cell) else (n, k)) = (n, .cell) from if_pos hc] at h
        rw [List.lookup_cons] at h
        simp only [hx] at h
        simpa [List.lookup_cons, hx] using ih h
      · rw [show (match ((n, k0) : Str × NameKind) with | (n, k) => if (k == NameKind.free && env.scope.kind == .function && env.kindOf n == some .cell) = true then (n, NameKind.cell) else (n, k)) = (n, k0) from if_neg hc] at h
        rw [List.lookup_cons] at h
        simp only [hx] at h
        simpa [List.lookup_cons, hx] using ih h

theorem relabel_free {env : Env} {x : Str} : ∀ {names : List (Str × NameKind)}, names.lookup x = some .free →
    (names.map fun (n, k) => if (k == NameKind.free && env.scope.kind == .function && env.kindOf n == some .cell) then (n, NameKind.cell) else (n, k)).lookup x = some .cell ∨
    (names.map fun (n, k) => if (k == NameKind.free && env.scope.kind == .function && env.kindOf n == some .cell) then (n, NameKind.cell) else (n, k)).lookup x = some .free
  | [], h => by simp at h
  | (n, k0) :: r, h => by
    have ih := @relabel_free env x r
    rw [List.map_cons, List.lookup_cons] at *
    by_cases hx : (x == n) = true
    · simp only [hx] at h
      cases h
      by_cases hc : (NameKind.free == NameKind.free && env.scope.kind == .function && env.kindOf n == some .cell) = true
      · left; simp only [if_pos hc, hx]
      · right; simp only [if_neg hc, hx]
    · simp only [hx] at h
      by_cases hc : (k0 == NameKind.free && env.scope.kind == .function && env.kindOf n == some .cell) = true
      · simp only [if_pos hc, hx]; exact ih h
      · simp only [if_neg hc, hx]; exact ih h
noncomputable def cxC (X : Cx) (N' : List Str) (scope : Scope) (C : Addr) (s : Shared) (H : Hp) (fp : List Addr) : Cx where
  prog := X.prog
  w := X.w
  K := X.K
  mg := X.mg
  base := X.base
  A := X.A
  N := N'
  s₀ := s
  H₀ := H
  env := compEnvC scope (closOf X.env scope.names []) C X.env
  outer := X.stack
  stack := X.stack
  ex := fp
  fn := fun _ => false
  calm := X.calm
  pn := []
  xe := fun _ _ => False
noncomputable def capS (cap : List (Option Nat)) (σ : St) : St := cap.map fun o => o.bind fun j => (σ[j]?).join
structure CompScope (X : Cx) (N' : List Str) (cap : List (Option Nat)) (scope : Scope) : Prop where
  kind : scope.kind = .function
  nocell : ∀ y ∈ scope.names, y.2 ≠ .cell
  names : ∀ y ∈ scope.names, y.2 = .local → scope.names.lookup y.1 = some .local
  fr : ∀ y ∈ scope.names, y.2 = .free → X.env.kindOf y.1 = some .cell ∨ X.env.kindOf y.1 = some .free
  len : cap.length = N'.length
  cap : ∀ (i j : Nat), cap[i]? = some (some j) → ∃ x, N'[i]? = some x ∧ X.N[j]? = some x ∧ scope.names.lookup x = some .free
section
variable {X : Cx} {pins : List (Addr × Obj)} {σ : St} {H : Hp} {s : Shared} {N' : List Str} {cap : List (Option Nat)} {scope : Scope} {fp : List Addr}
theorem mem_of_lookup' {x : Str} {k : NameKind} {l : List (Str × NameKind)} (h : l.lookup x = some k) : (x, k) ∈ l := PySem.mem_of_lookup h
theorem CompScope.cells (S : CompScope X N' cap scope) (ok : X.Ok) : ∀ y ∈ scope.names, y.2 = .free → ∃ c, X.env.cells.lookup y.1 = some c := fun y hy hf => ok.has y.1 (S.fr y hy hf)
theorem CompScope.cl (S : CompScope X N' cap scope) (ok : X.Ok) {x : Str} {c : Addr} (h : (closOf X.env scope.names []).lookup x = some c) : X.env.cells.lookup x = some c := by
  rcases closOf_lookup _ _ h with ⟨k, h1, h2, h3⟩ | h1
  · subst h2
    obtain ⟨c', e⟩ := S.cells ok (x, .free) h1 rfl
    rw [e] at h3
    rw [e]; exact congrArg some h3
  · simp at h1
theorem CompScope.inv (S : CompScope X N' cap scope) (I : Inv X pins σ H s) (hfp : ∀ b ∈ fp, FpOk X pins H b) {h' : Heap} {t' : Nat} (hk : ∀ b o, s.heap.get? b = some o → h'.get? b = some o) (hn : h'.Ns s.heap.objs.size fun _ => none) (hfs : ∀ b ∈ fp, b < s.heap.objs.size) :
    Inv (cxC X N' scope s.heap.objs.size s H fp) [] (capS cap σ) H { s with heap := h', toks := t' } := by
  have scl : ∀ {x : Str} {c : Addr}, (closOf X.env scope.names []).lookup x = some c → X.env.cells.lookup x = some c := fun h => S.cl I.ok h
  refine ⟨⟨I.ok.mod, by simpa [cxC, compEnvC, relabel] using S.kind, I.ok.glob, I.ok.blt, Nat.le_refl _, fun x y c h1 h2 => I.ok.inj x y c (scl h1) (scl h2), fun x hx => ?_, fun x c hf h => ?_, I.ok.hd, I.ok.frames, .inl rfl, fun b hb => ⟨Nat.ne_of_lt (hfs b hb), fun x c h => (hfp b hb).2.2.2.2.1 x c (scl h)⟩,
    I.bs, Nat.le_trans I.ok.bsz I.sz, fun b o e hb => ?_, fun b hb hf => ?_, I.stack, I.stkFree⟩, rfl, I.bare, Un.kept hk, ⟨_, hn, fun i x v e1 e2 e3 => ?_⟩, fun x c h => ?_, I.hok.fresh (Nat.le_refl _), fun x c h => I.freeC x c (scl h), fun p hp => absurd (show p ∈ ([] : List (Addr × Obj)) from hp) (by simp), I.hok.kept hk, ?_⟩
  · -- a name of a cell has one
    have hx : (scope.names.map fun (n, k) => if (k == NameKind.free && X.env.scope.kind == .function && X.env.kindOf n == some .cell) then (n, NameKind.cell) else (n, k)).lookup x = some .cell ∨ (scope.names.map fun (n, k) => if (k == NameKind.free && X.env.scope.kind == .function && X.env.kindOf n == some .cell) then (n, NameKind.cell) else (n, k)).lookup x = some .free := hx
    have : (x, NameKind.free) ∈ scope.names := by
      rcases hx with hx | hx
      · rcases relabel_lookup hx with q | ⟨_, q⟩
        · exact absurd rfl (S.nocell _ (mem_of_lookup' q))
        · exact mem_of_lookup' q
      · rcases relabel_lookup hx with q | ⟨q, _⟩
        · exact mem_of_lookup' q
        · cases q
    exact closOf_has _ _ (.inl this)
  · exact absurd (show false = true from hf) (by decide)
  · -- base objects are no iterators
    have hb' := hfp b hb
    rcases hb'.2.2.2.1 with z | z
    · exact I.ok.noex b o e z
    · exact absurd (Nat.lt_of_lt_of_le (Heap.lt_size (I.ok.bs b o e).1) z) (Nat.lt_irrefl _)
  · -- an iterator is no frame
    rcases List.mem_cons.mp (I.stkSub b hf) with e | e
    · exact (hfp b hb).2.1 e
    · exact (hfp b hb).2.2.1 e
  · -- the names from around
    obtain ⟨j, hj, hv⟩ : ∃ j, cap[i]? = some (some j) ∧ σ[j]? = some (some v) := by
      unfold capS at e2
      rw [List.getElem?_map] at e2
      cases q : cap[i]? with
      | none => rw [q] at e2; cases e2
      | some o =>
        rw [q] at e2
        cases o with
        | none => cases e2
        | some j =>
          refine ⟨j, rfl, ?_⟩
          have e2 : (σ[j]?).join = some v := Option.some.inj e2
          cases q2 : σ[j]? with
          | none => rw [q2] at e2; cases e2
          | some z => rw [q2] at e2; rw [show z = some v from e2]
    obtain ⟨y, g1, g2, g3⟩ := S.cap i j hj
    have exy : x = y := Option.some.inj (e1.symm.trans g1)
    subst exy
    have hk2 := S.fr (x, .free) (mem_of_lookup' g3) rfl
    obtain ⟨m, hm, hl⟩ := I.loc
    obtain ⟨u, r, l⟩ := hl j x v g2 hv (hk2.elim (fun z => .inr (.inl z)) fun z => .inr (.inr z))
    refine ⟨u, r, .inr ⟨relabel_free g3, ?_⟩⟩
    rcases l with ⟨z, _⟩ | ⟨_, c, e, q⟩
    · rcases hk2 with z' | z' <;> (rw [z] at z'; cases z')
    · obtain ⟨c', e'⟩ := closOf_has (env := X.env) (x := x) scope.names [] (.inl (mem_of_lookup' g3))
      have := scl e'
      rw [e] at this
      cases this
      exact ⟨c, e', q.keeps hk⟩
  · obtain ⟨v, q⟩ := I.cell x c (scl h)
    exact ⟨v, q.keeps hk⟩
  · show (capS cap σ).length = N'.length
    unfold capS; rw [List.length_map]; exact S.len
end
end L2
set_option Elab.async false
set_option linter.all false
set_option maxRecDepth 100000
namespace L2
open PySem PySem.Spec PyProof.Rows
noncomputable def tLC (cap : List (Option Nat)) (wi : TI) (g : TG) (tc : TT) (te : TE) : TE := fun σ H Q => wi σ H fun J H1 => ∀ D, H1 D = none → ∃ W : Nat → Nat → List V → L2.St → Hp → Prop,
  (∃ m, W 0 m [] (capS cap σ) (upd H1 D (.lst []))) ∧ ∀ i m ys σ' H', W i m ys σ' H' → H' D = some (.lst ys) ∧ ys.length < sizeLine ∧
    ((J.stop i H' ∧ Q (.ref D) H') ∨ (J.go i H' ∧ ∀ x H2, J.yld i H' x H2 → g x σ' H2 fun σ3 H3 => tc σ3 H3 fun b H4 =>
      if b = true then te σ3 H4 fun y H5 => H5 D = some (.lst ys) ∧ ∃ m', m' < m ∧ W (i + 1) m' (ys ++ [y]) σ3 (upd H5 D (.lst (ys ++ [y]))) else ∃ m', m' < m ∧ W (i + 1) m' ys σ3 H4))
section
variable {X : Cx} {pins : List (Addr × Obj)} {σ : L2.St} {H : Hp} {s : Shared} {N' : List Str} {cap : List (Option Nat)} {scope : Scope} {elt target iter : Expr} {ifs : List Expr} {wi : TI} {g : TG} {tc : TT} {te : TE} {pos p0 : Pos}
theorem comp_run {use : Option (Value → Sem Unit)} {Q' : VK} {Q : Value → Shared → Prop} (hcalm : X.calm = true) (S : CompScope X N' cap scope) (hi : PI X target iter wi)
    (hb : ∀ C s H fp, PG (cxC X N' scope C s H fp) target g ∧ PIfs (cxC X N' scope C s H fp) ifs tc ∧ PE (cxC X N' scope C s H fp) elt te) (hs : ∀ x, foldedSetIterable iter X.env x = pure x)
    (I : Inv X pins σ H s) (h : tLC cap wi g tc te σ H Q')
    (fin : ∀ (D C : Addr) (o : Obj) (H' : Hp) (s' : Shared), Inv X (pins ++ [(C, o)]) σ H' s' → FpOk X pins H' C → (∃ m, ∀ h : Heap, h.get? C = some o → h.Ns C m) → Q' (.ref D) H' → compPost (model X.prog X.w) X.A X.xe use Q (.ref D) C (.ok .next) s') :
    wpAny (model X.prog X.w) X.A (comprehension (.ListComp elt [⟨target, iter, ifs, 0⟩] scope pos) scope X.env p0 (newList []) false (eval iter X.env) use) Q X.xe s := by
  refine wpAny_comprehension_free rfl hs (closureFor_of (S.cells I.ok)) S.kind S.names ?_
  refine thn (hi pins s σ H _ I h) fun xv s₁ h₁ => thn h₁ fun itv s₂ h₂ => ?_
  obtain ⟨it, fp, tn, J, H2, rfl, I2, T, st2, f2, h2⟩ := h₂
  have hlt : ∀ b ∈ fp, b < s₂.heap.objs.size := fun b hb => by obtain ⟨o, e, _⟩ := T.obj 0 _ st2 b hb; exact Heap.lt_size e
  refine wpAny_newObj_type (wpAny_newFunctionEnv S.nocell (by intro y hy; simp at hy) (fun h4 hns4 hsb4 => ?_) S.kind)
  have I3 := I2.lnew (ys := []) (its := []) (t' := s₂.toks) .nil (Nat.zero_le _)
  obtain ⟨W, ⟨m0, w0⟩, turn⟩ := h2 s₂.heap.objs.size (I2.hok.fresh (Nat.le_refl _))
  have f3 : ∀ b ∈ fp, FpOk X pins (upd H2 s₂.heap.objs.size (.lst [])) b := fun b hb => by
    obtain ⟨q0, q⟩ := f2 b hb
    exact ⟨by rw [upd_ne (Nat.ne_of_lt (hlt b hb))]; exact q0, q⟩
  generalize hs3 : ({ s₂ with heap := s₂.heap.push { cls := .type "list", dict := none, data := .seq ([] : List Value).toArray } } : Shared) = s3 at *
  have hk : ∀ b o, s3.heap.get? b = some o → h4.get? b = some o := fun b o e => hsb4.extBut b o (Nat.ne_of_lt (Heap.lt_size e)) (Heap.get?_push_of_some _ e)
  have hsz : s₂.heap.objs.size ≤ s3.heap.objs.size := by rw [← hs3]; show _ ≤ (s₂.heap.push _).objs.size; rw [Heap.size_push]; exact Nat.le_succ _
  have hlt3 : ∀ b ∈ fp, b < s3.heap.objs.size := fun b hb => Nat.lt_of_lt_of_le (hlt b hb) hsz
  have kept23 : ∀ b o, s₂.heap.get? b = some o → s3.heap.get? b = some o := fun b o e => by rw [← hs3]; exact Heap.get?_push_of_some _ e
  have Ic := S.inv (t' := s3.toks + ([] : List (Str × Value)).length) I3 f3 hk hns4 hlt3
  have st4 : tn 0 h4 := T.keep 0 _ _ st2 fun b hb o e => hk b o (kept23 b o e)
  obtain ⟨bg, bi, be⟩ := hb s3.heap.objs.size s3 (upd H2 s₂.heap.objs.size (.lst [])) fp
  -- the iterator's objects, in the block
  have statC : ∀ {H' : Hp}, (∀ b ∈ fp, H' b = none) → ∀ b ∈ fp, FpOk (cxC X N' scope s3.heap.objs.size s3 (upd H2 s₂.heap.objs.size (.lst [])) fp) [] H' b := fun hn b hb =>
    ⟨hn b hb, Nat.ne_of_lt (hlt3 b hb), fun hf => by
      rcases List.mem_cons.mp (I3.stkSub b hf) with e | e
      · exact (f3 b hb).2.1 e
      · exact (f3 b hb).2.2.1 e, .inl hb, fun x c e => (f3 b hb).2.2.2.2.1 x c (S.cl I3.ok e), fun p hp => absurd (show p ∈ ([] : List (Addr × Obj)) from hp) (by simp)⟩
  have loop : codeAny (model X.prog X.w) X.A (.compLoop (.ListComp elt [⟨target, iter, ifs, 0⟩] scope pos) 0 (.ref it) (.ref s₂.heap.objs.size) (compEnvC scope (closOf X.env scope.names []) s3.heap.objs.size X.env))
      (compPost (model X.prog X.w) X.A X.xe use Q (.ref s₂.heap.objs.size) s3.heap.objs.size) { s3 with heap := h4, toks := s3.toks + ([] : List (Str × Value)).length } := by
    refine compLoop_any (fun n s' => ∃ i ys σ' H', Inv (cxC X N' scope s3.heap.objs.size s3 (upd H2 s₂.heap.objs.size (.lst [])) fp) [] σ' H' s' ∧ tn i s'.heap ∧ (∀ b ∈ fp, H' b = none) ∧ W i n ys σ' H') ?_ m0
      ⟨0, [], _, _, Ic, st4, fun b hb => (f3 b hb).1, w0⟩
    rintro n s5 ⟨i, ys, σ5, H5, I5, st5, fr5, w5⟩
    obtain ⟨hD, hl, alt⟩ := turn i n ys σ5 H5 w5
    rcases alt with ⟨stop, q⟩ | ⟨go, step⟩
    · refine thn (T.done (cxC X N' scope s3.heap.objs.size s3 (upd H2 s₂.heap.objs.size (.lst [])) fp) rfl rfl rfl hcalm i [] s5 σ5 H5 _ I5 (statC fr5) st5 stop) fun r s6 ⟨hr, I6⟩ => ?_
      subst hr
      -- back to the outer frame
      have I7 : Inv X pins σ H5 s6 := I3.call' (ch := fp) I6.os I6.base I6.hok I6.bare fun b hb => ⟨(f3 b hb).2.2.2.1, (f3 b hb).2.1, (f3 b hb).2.2.2.2.1, (f3 b hb).2.2.2.2.2⟩
      obtain ⟨m, ⟨o, es, ep, ho, hd, hrest⟩, _⟩ := id I6.loc
      have hC : FpOk X pins H5 s3.heap.objs.size := I3.fpOk (Nat.le_refl _) I6.free
      refine fin _ _ o H5 s6 (I7.pins_of fun p hp => ?_) hC ⟨m, fun h e => ⟨o, es, ep, e, hd, hrest⟩⟩ q
      rcases List.mem_append.mp hp with hp | hp
      · exact I7.pin p (List.mem_append_right _ hp)
      · have e : p = (s3.heap.objs.size, o) := by simpa using hp
        subst e
        exact ⟨ho, hC.1, hC.2.1, hC.2.2.1, fun v => by rw [hd]; intro z; cases z⟩
    · refine thn (T.item (cxC X N' scope s3.heap.objs.size s3 (upd H2 s₂.heap.objs.size (.lst [])) fp) rfl rfl rfl hcalm i [] s5 σ5 H5 _ I5 (statC fr5) st5 go) fun r s6 ⟨u, hr, h6⟩ => ?_
      subst hr
      refine thn h6 fun _ s7 ⟨x, H7, I7, r7, y7, st7, fr7⟩ => ?_
      have I7' := I7.pinned (statC fr7) (T.obj _ _ st7)
      refine thn (bg _ s7 σ5 H7 x u _ I7' r7 (step x H7 y7)) fun _ s8 ⟨σ8, H8, I8, q8⟩ => ?_
      refine thn (bi _ s8 σ8 H8 _ I8 q8) fun ok s9 ⟨H9, I9, q9⟩ => ?_
      have again : ∀ {ys' : List V} {H' : Hp} {s' : Shared} {m' : Nat}, Inv (cxC X N' scope s3.heap.objs.size s3 (upd H2 s₂.heap.objs.size (.lst [])) fp) ([] ++ pinsAt fp s7.heap) σ8 H' s' → m' < n → W (i + 1) m' ys' σ8 H' →
          ∃ m, m < n ∧ ∃ i ys σ' H', Inv (cxC X N' scope s3.heap.objs.size s3 (upd H2 s₂.heap.objs.size (.lst [])) fp) [] σ' H' s' ∧ tn i s'.heap ∧ (∀ b ∈ fp, H' b = none) ∧ W i m ys σ' H' := fun {ys' H' s' m'} I' hm w' => by
        refine ⟨m', hm, i + 1, ys', σ8, H', I'.unpinned, T.keep _ _ _ st7 fun b hb o e => (I'.pin (b, o) (List.mem_append_right _ (List.mem_append_right _ (mem_pinsAt hb e)))).1, fun b hb => ?_, w'⟩
        obtain ⟨o, e, d⟩ := T.obj _ _ st7 b hb
        exact (I'.pin (b, o) (List.mem_append_right _ (List.mem_append_right _ (mem_pinsAt hb e)))).2.1
      cases ok with
      | false =>
        rw [if_neg Bool.false_ne_true] at q9 ⊢
        obtain ⟨m', hm, w'⟩ := q9
        exact again I9 hm w'
      | true =>
        rw [if_pos rfl] at q9 ⊢
        refine thn (be _ s9 σ8 H9 _ I9 q9) fun v s10 ⟨y, H10, I10, r10, hD10, m', hm, w'⟩ => ?_
        refine thn (mt_append _ s10 σ8 H10 (.ref s₂.heap.objs.size) [y] (.ref s₂.heap.objs.size) [v] (fun _ H' => H' = upd H10 s₂.heap.objs.size (.lst (ys ++ [y]))) I10 rfl (.cons r10 .nil) ⟨_, ys, y, rfl, rfl, hD10, hl, rfl⟩) fun _ s11 ⟨_, H11, I11, _, e11⟩ => ?_
        subst e11
        exact again I11 hm w'
  exact codeAny_compStart_list loop (T.self _ 0 _ _ _ st4 loop)
theorem comp_letgo {C : Addr} {o : Obj} {H' : Hp} {s' : Shared} {σ' : L2.St} (I : Inv X (pins ++ [(C, o)]) σ' H' s') (f : FpOk X pins H' C) {h' : Heap} (sb : Heap.SameBut C s'.heap h') : Inv X pins σ' H' { s' with heap := h' } :=
  (I.unpinned).turned (t' := s'.toks) (fun b ob hb e => sb.extBut b ob hb e) f.1 f.2.1 f.2.2.2.1 f.2.2.2.2.1 f.2.2.2.2.2
theorem pe_lcomp (hcalm : X.calm = true) (S : CompScope X N' cap scope) (hi : PI X target iter wi)
    (hb : ∀ C s H fp, PG (cxC X N' scope C s H fp) target g ∧ PIfs (cxC X N' scope C s H fp) ifs tc ∧ PE (cxC X N' scope C s H fp) elt te) (hs : ∀ x, foldedSetIterable iter X.env x = pure x := by intro _; rfl) :
    PE X (.ListComp elt [⟨target, iter, ifs, 0⟩] scope pos) (tLC cap wi g tc te) := by
  intro pins s σ H Q I h
  rw [eval_ListComp]
  refine comp_run (use := none) (Q' := Q) hcalm S hi hb hs I h fun D C o H' s' I' f ⟨m, hm⟩ q => ?_
  have ho := (I'.pin (C, o) (by simp)).1
  exact ⟨m, hm _ ho, fun h' sb => ⟨.ref D, H', comp_letgo I' f sb, rfl, q⟩⟩
theorem ps_lcomp {i : Nat} {y : Str} {py spos : Pos} (hcalm : X.calm = true) (S : CompScope X N' cap scope) (hi : PI X target iter wi)
    (hb : ∀ C s H fp, PG (cxC X N' scope C s H fp) target g ∧ PIfs (cxC X N' scope C s H fp) ifs tc ∧ PE (cxC X N' scope C s H fp) elt te) (hpg : PG X (.Name y py) (gName i))
    (hsw : swapsWith (.ListComp elt [⟨target, iter, ifs, 0⟩] scope pos) (some (.Name y py)) spos.line X.env = pure true) (hs : ∀ x, foldedSetIterable iter X.env x = pure x := by intro _; rfl) :
    PS X (.Assign [.Name y py] (.ListComp elt [⟨target, iter, ifs, 0⟩] scope pos) spos) (tAsg (tLC cap wi g tc te) (gName i)) := by
  intro pins s σ H D I h
  rw [exec_Assign_Name_used _ _ _ _ hsw]
  refine wpAny_bind (wpAny_standAt (wpAny_bind ?_))
  show wpAny _ X.A (do let _ ← comprehension (.ListComp elt [⟨target, iter, ifs, 0⟩] scope pos) scope X.env _ (newList []) false (eval iter X.env) (some (assign (.Name y py) X.env))) _ _ s
  refine wpAny_bind (wpAny_mono (comp_run (use := some (assign (.Name y py) X.env)) (Q := fun _ s' => SP X pins D .next s') hcalm S hi hb hs I h fun A C o H' s' I' f ⟨m, hm⟩ q => ?_) (fun _ s' hq => wpAny_pure (wpAny_pure hq)) fun _ _ e => e)
  show wpAny _ X.A (assign (.Name y py) X.env (.ref A)) _ _ s'
  refine thn (hpg _ s' σ H' (.ref A) (.ref A) (fun σ' H'' => H'' = H' ∧ D.nx σ' H'') I' rfl ⟨rfl, q⟩) fun _ s'' ⟨σ2, H2, I2, e2, q2⟩ => ?_
  subst e2
  exact ⟨m, hm _ (I2.pin (C, o) (by simp)).1, fun h' sb => ⟨σ2, H2, comp_letgo I2 f sb, q2⟩⟩
end
end L2
set_option Elab.async false
set_option linter.all false
set_option maxRecDepth 100000
namespace L3
open PySem L2
noncomputable def capE (cap : List (Option Nat)) (ev : Ev) : Ev := cap.map fun o => o.bind fun j => match (ev[j]?).join with
  | some (.fz, d) => some (.fz, d)
  | _ => none
noncomputable def compE (b : B1) (c e : Ev → R) (ev : Ev) : List D → Option (List D)
  | [] => some []
  | d :: ds => match b d ev with
    | none => none
    | some ev1 => match c ev1 with
      | .ok _ (.bl t) => if t then (match e ev1 with
        | .ok .bo _ => none
        | .ok _ x => (compE b c e ev ds).map (x :: ·)
        | _ => none) else compE b c e ev ds
      | _ => none
noncomputable def compR (cap : List (Option Nat)) (b : B1) (c e : Ev → R) (ev : Ev) : RI → R
  | .ok ds => if ds.length < LIM then (match compE b c e (capE cap ev) ds with
    | some l => .ok .ow (.lst l)
    | none => .no) else .no
  | .ex C => .ex C
  | .no => .no
noncomputable def eComp (cap : List (Option Nat)) (fi : Ev → RI) (b : B1) (c e : Ev → R) (ev : Ev) : R := compR cap b c e ev (fi ev)
noncomputable def BOnly (S : List Nat) (b : B1) : Prop := ∀ d ev ev', b d ev = some ev' → ev'.length = ev.length ∧ ∀ i, i ∉ S → ev'[i]? = ev[i]?
theorem bo_name (i : Nat) : BOnly [i] (bName i) := fun d ev ev' e => by
  cases e
  exact ⟨by simp, fun j hj => by rw [List.getElem?_set_ne]; simp at hj; exact fun z => hj z.symm⟩
section
variable {X : Cx} {K : PySem.W.Frag} {F0 H0 F H F' H' : Hp} {Ψ : Psi} {σ : L2.St} {ev : Ev}
theorem capE_no (cap : List (Option Nat)) (ev : Ev) {i : Nat} {d : D} : (capE cap ev)[i]? ≠ some (some (.ow, d)) := fun e => by
  unfold capE at e
  rw [List.getElem?_map] at e
  cases q : cap[i]? with
  | none => rw [q] at e; cases e
  | some o =>
    rw [q] at e
    cases o with
    | none => cases e
    | some j =>
      have e : (match (ev[j]?).join with | some (.fz, d) => some (Kd.fz, d) | _ => none) = some (.ow, d) := Option.some.inj e
      split at e <;> cases e
theorem FI.cap (cap : List (Option Nat)) (f : FI K F0 H0 F H ev σ) : FI K F0 H0 F H (capE cap ev) (capS cap σ) := by
  refine ⟨f.st, fun i k d e => ?_, fun i j d e _ e1 _ => absurd e1 (capE_no cap ev), by simp [capE, capS]⟩
  have e' := e
  unfold capE at e
  rw [List.getElem?_map] at e
  cases q : cap[i]? with
  | none => rw [q] at e; cases e
  | some o =>
    rw [q] at e
    cases o with
    | none => cases e
    | some j =>
      have e : (match (ev[j]?).join with | some (.fz, d) => some (Kd.fz, d) | _ => none) = some (k, d) := Option.some.inj e
      split at e
      · rename_i d' hj
        cases e
        have hj' : ev[j]? = some (some (.fz, d)) := by
          cases q2 : ev[j]? with
          | none => rw [q2] at hj; cases hj
          | some z => rw [q2] at hj; rw [show z = some (.fz, d) from hj]
        obtain ⟨n, v, e1, hv⟩ := f.at_ j _ _ hj'
        refine ⟨n, v, ?_, hv⟩
        unfold capS
        rw [List.getElem?_map, q]
        show some ((σ[j]?).join) = _
        rw [e1]; rfl
      · cases e
theorem FI.hid {a : Addr} {o : HO} (f : FI K F0 H0 F H ev σ) (no : ∀ (i : Nat) d, ev[i]? ≠ some (some (.ow, d))) (h0 : H0 a = none) (hf : F a = none) : FI K F0 H0 F (upd H a o) ev σ := by
  have ne : ∀ {G : Hp}, G a = none → Same G H → Same G (upd H a o) := fun {G} n s b u q => by
    rw [upd_ne]; exact s b u q
    rintro rfl; rw [n] at q; cases q
  refine ⟨⟨f.st.up, ne hf f.sub, ne h0 f.st.keep, f.st.new⟩, fun i k d e => ?_, f.apart, f.len⟩
  obtain ⟨n, v, e1, hv⟩ := f.at_ i k d e
  cases k with
  | bo => exact absurd rfl n
  | ow => exact absurd e (no i d)
  | fz => exact ⟨n, v, e1, hv⟩
structure LCI (K : PySem.W.Frag) (F0 H0 F H F1 : Hp) (ce : Ev) (cf : List D → Option (List D)) (ds l : List D) (Dd : Addr) (i m : Nat) (ys : List V) (σ' : St) (H' F2 : Hp) (es rest : List D) : Prop where
  em : m = ds.length - i
  hi : i ≤ ds.length
  f2 : FI K F0 H0 F2 H' ce σ'
  u2 : Same F1 F2
  st : Step F H F2 H'
  hd : H' Dd = some (.lst ys)
  hf : F2 Dd = none
  rs : Reps K F2 es ys
  cs : cf (ds.drop i) = some rest
  el : es ++ rest = l
  hel : es.length ≤ i
theorem LCI.same {F0 H0 F H F1 : Hp} {ce : Ev} {cf : List D → Option (List D)} {ds l : List D} {Dd : Addr} {i m : Nat} {ys : List V} {σ' σ3 : St} {H' F2 F4 H4 : Hp} {es rest : List D} (x : LCI K F0 H0 F H F1 ce cf ds l Dd i m ys σ' H' F2 es rest) (hlt : i < ds.length) (s : Step F2 H' F4 H4) (f : FI K F0 H0 F4 H4 ce σ3)
    (cs : cf (ds.drop (i + 1)) = some rest) : LCI K F0 H0 F H F1 ce cf ds l Dd (i + 1) (ds.length - (i + 1)) ys σ3 H4 F4 es rest :=
  ⟨rfl, hlt, f, x.u2.trans s.up, x.st.trans s, s.keep _ _ x.hd, s.unfz x.hd x.hf, x.rs.mono s.up, cs, x.el, Nat.le_succ_of_le x.hel⟩
theorem same_upd {G H5 : Hp} {Dd : Addr} {o : HO} (n : G Dd = none) (s : Same G H5) : Same G (upd H5 Dd o) := fun b u q => by
  rw [upd_ne]; exact s b u q
  rintro rfl; rw [n] at q; cases q
theorem LCI.more {F0 H0 F H F1 : Hp} {ce : Ev} {cf : List D → Option (List D)} {ds l : List D} {Dd : Addr} {i m : Nat} {ys : List V} {σ' σ3 : St} {H' F2 F6 H5 : Hp} {es rest rest' : List D} {d : D} {v : V} (x : LCI K F0 H0 F H F1 ce cf ds l Dd i m ys σ' H' F2 es rest) (hlt : i < ds.length) (s : Step F2 H' F6 H5) (hD : H Dd = none)
    (f : FI K F0 H0 F6 (upd H5 Dd (.lst (ys ++ [v]))) ce σ3) (r : Rep K F6 d v) (cs : cf (ds.drop (i + 1)) = some rest') (e : d :: rest' = rest) : LCI K F0 H0 F H F1 ce cf ds l Dd (i + 1) (ds.length - (i + 1)) (ys ++ [v]) σ3 (upd H5 Dd (.lst (ys ++ [v]))) F6 (es ++ [d]) rest' :=
  have S := x.st.trans s
  have hf := s.unfz x.hd x.hf
  ⟨rfl, hlt, f, x.u2.trans s.up, ⟨S.up, same_upd hf S.sub, same_upd hD S.keep, S.new⟩, upd_same, hf, (x.rs.mono s.up).app (.cons r .nil), cs, by rw [← x.el, ← e]; simp, by simpa using x.hel⟩
theorem tLC_of {cap : List (Option Nat)} {fi : Ev → RI} {b : B1} {c e : Ev → R} {S : List Nat} {Q : VK} (hB : BOnly S b) (hS : ∀ i ∈ S, cap[i]? = some none) (h : tV K F0 H0 Ψ (eComp cap fi b c e) σ H Q) :
    tLC cap (tVI K F0 H0 Ψ fi) (gV K F0 H0 b) (tVT K F0 H0 Psi0 c) (tV K F0 H0 Psi0 e) σ H Q := by
  obtain ⟨F, ev, fi', m⟩ := h
  refine ⟨F, ev, fi', ?_⟩
  unfold eComp at m
  cases h1 : fi ev with
  | no => rw [h1] at m; exact m
  | ex C => rw [h1] at m; exact m
  | ok ds =>
    rw [h1] at m
    intro F1 H1 J s y Dd hD
    simp only [compR] at m
    by_cases hl : ds.length < LIM
    · rw [if_pos hl] at m
      cases h2 : compE b c e (capE cap ev) ds with
      | none => rw [h2] at m; exact m.elim
      | some l =>
        rw [h2] at m
        have hD0 : H0 Dd = none := (fi'.st.trans s).keep.free hD
        have hDH : H Dd = none := s.keep.free hD
        have hDF : F1 Dd = none := s.sub.free hD
        refine ⟨fun i m ys σ' H' => ∃ F2 es rest, LCI K F0 H0 F H F1 (capE cap ev) (compE b c e (capE cap ev)) ds l Dd i m ys σ' H' F2 es rest, ?_, ?_⟩
        · exact ⟨ds.length, F1, [], l, by simp, Nat.zero_le _, ((fi'.later s).cap cap).hid (fun i d => capE_no cap ev) hD0 hDF, .refl _, ⟨s.up, same_upd hDF s.sub, same_upd hDH s.keep, s.new⟩, upd_same, hDF, .nil, h2, rfl, Nat.zero_le _⟩
        · rintro i m' ys σ' H' ⟨F2, es, rest, x⟩
          refine ⟨x.hd, by rw [← x.rs.length]; exact Nat.lt_of_le_of_lt (Nat.le_trans x.hel x.hi) (Nat.lt_of_lt_of_le hl sizeLine_ge), ?_⟩
          have ce := x.cs
          by_cases hlt : i < ds.length
          · have hm : ds.length - (i + 1) < m' := by rw [x.em]; exact Nat.sub_lt_sub_left hlt (Nat.lt_succ_self _)
            refine .inr ⟨y.go i H' (x.u2.trans x.f2.sub) hlt, fun v H2 yl => ?_⟩
            obtain ⟨F3, d, s3, ed, r⟩ := y.yld i F2 H' v H2 x.u2 x.f2.sub hlt yl
            have edr : ds.drop i = d :: ds.drop (i + 1) := by
              obtain ⟨h, e'⟩ := List.getElem?_eq_some_iff.mp ed
              rw [← e']
              exact List.drop_eq_getElem_cons h
            rw [edr] at ce
            simp only [compE] at ce
            cases q1 : b d (capE cap ev) with
            | none => rw [q1] at ce; cases ce
            | some ev1 =>
              rw [q1] at ce
              dsimp only at ce
              refine ⟨F3, capE cap ev, d, ev1, x.f2.later s3, r, q1, fun H'' σ3 hH f3 => ?_⟩
              subst hH
              obtain ⟨lb, gb⟩ := hB _ _ _ q1
              have weak : ∀ {F4 H4 : Hp}, FI K F0 H0 F4 H4 ev1 σ3 → FI K F0 H0 F4 H4 (capE cap ev) σ3 := fun f4 => f4.weak lb.symm fun j k d' e' => by
                by_cases hj : j ∈ S
                · have := hS j hj
                  unfold capE at e'
                  rw [List.getElem?_map, this] at e'
                  cases e'
                · rw [gb j hj]; exact e'
              refine ⟨F3, ev1, f3, ?_⟩
              cases q2 : c ev1 with
              | no => rw [q2] at ce; cases ce
              | ex C => rw [q2] at ce; cases ce
              | ok k2 d2 =>
                rw [q2] at ce
                cases d2 with
                | bl t =>
                  intro F4 H4 s4
                  have st34 := s3.trans s4
                  cases t with
                  | false =>
                    rw [if_neg Bool.false_ne_true]
                    simp only [Bool.false_eq_true, if_false] at ce
                    exact ⟨_, hm, F4, es, rest, x.same hlt st34 (weak (f3.later s4)) ce⟩
                  | true =>
                    rw [if_pos rfl]
                    simp only [if_true] at ce
                    refine ⟨F4, ev1, f3.later s4, ?_⟩
                    cases q3 : e ev1 with
                    | no => rw [q3] at ce; cases ce
                    | ex C => rw [q3] at ce; cases ce
                    | ok k3 x3 =>
                      rw [q3] at ce
                      intro F5 v5 H5 p5
                      have go : ∀ F6, Post K F4 H4 .fz x3 F6 v5 H5 → ((compE b c e (capE cap ev) (ds.drop (i + 1))).map (x3 :: ·)) = some rest → H5 Dd = some (.lst ys) ∧ ∃ m'', m'' < m' ∧ ∃ F2 es rest, LCI K F0 H0 F H F1 (capE cap ev) (compE b c e (capE cap ev)) ds l Dd (i + 1) m'' (ys ++ [v5]) σ3 (upd H5 Dd (.lst (ys ++ [v5]))) F2 es rest := fun F6 p6 ce => by
                        have st := st34.trans p6.st
                        cases q4 : compE b c e (capE cap ev) (ds.drop (i + 1)) with
                        | none => rw [q4] at ce; cases ce
                        | some rest' =>
                          rw [q4] at ce
                          exact ⟨st.keep _ _ x.hd, _, hm, F6, es ++ [x3], rest', x.more hlt st hDH ((weak ((f3.later s4).later p6.st)).hid (fun i d => capE_no cap ev) hD0 (st.unfz x.hd x.hf)) p6.val q4 (Option.some.inj ce)⟩
                      cases k3 with
                      | bo => cases ce
                      | fz => exact go F5 p5 ce
                      | ow => obtain ⟨F6, p6⟩ := p5.frz; exact go F6 p6 ce
                | _ => cases ce
          · have e2 : i = ds.length := Nat.le_antisymm x.hi (Nat.le_of_not_lt hlt)
            subst e2
            rw [List.drop_length] at ce
            cases ce
            refine .inl ⟨y.stop _ H' (x.u2.trans x.f2.sub) (Nat.le_refl _), ?_⟩
            have el := x.el
            rw [List.append_nil] at el
            subst el
            exact m F2 _ H' ⟨x.st, Dd, rfl, hDH, x.hf, ys, x.hd, x.rs⟩
    · rw [if_neg hl] at m; exact m.elim
end
end L3
set_option Elab.async false
set_option linter.all false
set_option maxRecDepth 100000
namespace L3
open PySem L2
noncomputable def capOk (N N' : List Str) (cap : List (Option Nat)) (names : List (Str × NameKind)) : Bool := (List.range cap.length).all fun i => match cap[i]? with
  | some (some j) => (match N'[i]?, N[j]? with
    | some x, some y => decide (x = y) && decide (names.lookup x = some .free)
    | _, _ => false)
  | _ => true
structure CompSc (osc : Scope) (N N' : List Str) (cap : List (Option Nat)) (scope : Scope) : Prop where
  kind : scope.kind = .function
  nocell : ∀ y ∈ scope.names, y.2 ≠ .cell
  names : ∀ y ∈ scope.names, y.2 = .local → scope.names.lookup y.1 = some .local
  fr : ∀ y ∈ scope.names, y.2 = .free → osc.names.lookup y.1 = some .cell ∨ osc.names.lookup y.1 = some .free
  len : cap.length = N'.length
  cap : capOk N N' cap scope.names = true
theorem CompSc.to {X : Cx} {osc : Scope} {N N' : List Str} {cap : List (Option Nat)} {scope : Scope} (h : CompSc osc N N' cap scope) (h1 : X.env.scope = osc) (h2 : X.N = N) : CompScope X N' cap scope := by
  subst h1; subst h2
  refine ⟨h.kind, h.nocell, h.names, h.fr, h.len, fun i j e => ?_⟩
  have hi : i < cap.length := (List.getElem?_eq_some_iff.mp e).1
  have := List.all_eq_true.mp h.cap i (by simpa using hi)
  rw [e] at this
  dsimp only at this
  split at this
  · rename_i x y e1 e2
    rw [Bool.and_eq_true] at this
    have e3 : x = y := of_decide_eq_true this.1
    subst e3
    exact ⟨x, e1, e2, of_decide_eq_true this.2⟩
  · cases this
section
variable {X : Cx} {F0 H0 : Hp} {Ψ : Psi} {N N' : List Str} {osc scope : Scope} {cap : List (Option Nat)} {elt target iter c : Expr} {ifs : List Expr} {fi : Ev → RI} {b : B1} {f e : Ev → R} {S : List Nat} {pos : Pos}
noncomputable def VF (X : Cx) (F0 H0 : Hp) (ifs : List Expr) (f : Ev → R) : Prop := PIfs X ifs (tVT X.K F0 H0 Psi0 f)
theorem vf_nil : VF X F0 H0 [] (conR (.bl true)) := fun pins s σ H Q I h => by
  obtain ⟨F, ev, fi, m⟩ := h
  exact pifs_nil pins s σ H Q I (m F H fi.refl)
theorem vf_one (h : VT X F0 H0 Psi0 c f) : VF X F0 H0 [c] f := pifs_one h
theorem v_comp (N' : List Str) (cap : List (Option Nat)) (S : List Nat) (hX : X.env.scope = osc) (hN : X.N = N) (C : CompSc osc N N' cap scope) (hcalm : X.calm = true) (hi : VI X F0 H0 Ψ target iter fi) (hB : BOnly S b)
    (hb : ∀ C s H fp, VG (cxC X N' scope C s H fp) F0 H0 target b ∧ VF (cxC X N' scope C s H fp) F0 H0 ifs f ∧ VE (cxC X N' scope C s H fp) F0 H0 Psi0 elt e) (hS : ∀ i ∈ S, cap[i]? = some none := by decide)
    (hs : ∀ x, foldedSetIterable iter X.env x = pure x := by intro _; rfl) : VE X F0 H0 Ψ (.ListComp elt [⟨target, iter, ifs, 0⟩] scope pos) (eComp cap fi b f e) :=
  (pe_lcomp (g := gV X.K F0 H0 b) (tc := tVT X.K F0 H0 Psi0 f) (te := tV X.K F0 H0 Psi0 e) hcalm (C.to hX hN) hi hb hs).mono fun _ _ _ q => tLC_of hB hS q
theorem tSetC_of {K : PySem.W.Frag} {i : Nat} {cap : List (Option Nat)} {fi : Ev → RI} {b : B1} {c e : Ev → R} {S : List Nat} {E : Ends} {σ : L2.St} {H : Hp} (hB : BOnly S b) (hS : ∀ i ∈ S, cap[i]? = some none) (h : tSv K F0 H0 Ψ (setG i (eComp cap fi b c e)) E σ H) :
    tAsg (tLC cap (tVI K F0 H0 Ψ fi) (gV K F0 H0 b) (tVT K F0 H0 Psi0 c) (tV K F0 H0 Psi0 e)) (gName i) E σ H := tLC_of hB hS (tSet_of h)
theorem vs_comp (i : Nat) {x : Str} {py spos : Pos} (N' : List Str) (cap : List (Option Nat)) (S : List Nat) (hX : X.env.scope = osc) (hN : X.N = N) (nd : X.N.Nodup) (C : CompSc osc N N' cap scope) (hcalm : X.calm = true) (hi : VI X F0 H0 Ψ target iter fi) (hB : BOnly S b)
    (hb : ∀ C s H fp, VG (cxC X N' scope C s H fp) F0 H0 target b ∧ VF (cxC X N' scope C s H fp) F0 H0 ifs f ∧ VE (cxC X N' scope C s H fp) F0 H0 Psi0 elt e) (hS : ∀ i ∈ S, cap[i]? = some none := by decide)
    (hix : X.N[i]? = some x := by rfl) (hx : Loc X.env.scope x := by first | exact Or.inl rfl | exact Or.inr rfl) (hf : X.fn x = true ∨ X.env.scope.names.lookup x = some .local := by first | exact .inl rfl | exact .inr rfl)
    (hsw : swapsWith (.ListComp elt [⟨target, iter, ifs, 0⟩] scope pos) (some (.Name x py)) spos.line X.env = pure true := by rfl)
    (hs : ∀ x, foldedSetIterable iter X.env x = pure x := by intro _; rfl) : VS X F0 H0 Ψ (.Assign [.Name x py] (.ListComp elt [⟨target, iter, ifs, 0⟩] scope pos) spos) (setG i (eComp cap fi b f e)) :=
  (ps_lcomp (g := gV X.K F0 H0 b) (tc := tVT X.K F0 H0 Psi0 f) (te := tV X.K F0 H0 Psi0 e) hcalm (C.to hX hN) hi hb (pg_name nd hix hx hf) hsw hs).mono fun _ _ _ q => tSetC_of hB hS q
end
mutual
noncomputable def py : D → Option PyData
  | .non => some .none
  | .bl b => some (.bool b)
  | .int i => some (.int i)
  | .str x => if PyData.strOk x = true then some (.str x) else none
  | .tup xs => (pyL xs).map .tuple
  | .lst xs => (pyL xs).map .list
  | .scr xs => (pyL xs).map .list
  | .dK _ _ => none
  | .dT _ _ => none
  | .obj _ _ _ => none
  | .ty _ => none
noncomputable def pyL : List D → Option (List PyData)
  | [] => some []
  | d :: ds => (py d).bind fun p => (pyL ds).map (p :: ·)
end
section
variable {X : Cx} {pins : List (Addr × Obj)} {σ : L2.St} {H : Hp} {s : Shared}
mutual
theorem Rep.reads (I : Inv X pins σ H s) : ∀ {d : D} {v : V} {u : Value} {p : PyData}, Rep X.K H d v → RelV v u → py d = some p → ∃ as, Reads s.heap u p as ∧ p.canLay0 = true
  | .non, _, _, _, h, r, e => by rw [Rep] at h; subst h; rw [py] at e; cases e; cases r; exact ⟨[], .none, rfl⟩
  | .bl b, _, _, _, h, r, e => by rw [Rep] at h; subst h; rw [py] at e; cases e; cases r; exact ⟨[], .bool b, rfl⟩
  | .int i, _, _, _, h, r, e => by rw [Rep] at h; subst h; rw [py] at e; cases e; obtain ⟨t, rfl⟩ := r; exact ⟨[], .int i t, rfl⟩
  | .str x, _, _, _, h, r, e => by
    rw [Rep] at h; subst h; rw [py] at e
    split at e
    · rename_i hs; cases e; obtain ⟨t, rfl⟩ := r; exact ⟨[], .str x t, by simpa [PyData.canLay0] using hs⟩
    · cases e
  | .tup xs, _, _, _, h, r, e => by
    rw [Rep] at h; obtain ⟨a, vs, rfl, h2, h3⟩ := h
    rw [py] at e
    cases q : pyL xs with
    | none => rw [q] at e; cases e
    | some ps =>
      rw [q] at e; cases e
      cases r
      obtain ⟨its, rv, ⟨o, ho, hc, n, hd⟩, hz⟩ := I.tuple (SqT.of h2)
      obtain ⟨as, h4, h5⟩ := Reps.reads I h3 rv q
      exact ⟨as, .tuple ho hc hd (by simpa using h4), by simpa [PyData.canLay0] using h5⟩
  | .lst xs, _, _, _, h, r, e => by
    rw [Rep] at h; obtain ⟨a, vs, rfl, h2, h3⟩ := h
    rw [py] at e
    cases q : pyL xs with
    | none => rw [q] at e; cases e
    | some ps =>
      rw [q] at e; cases e
      cases r
      obtain ⟨its, rv, pl, hz⟩ := I.list (SqL.of h2)
      obtain ⟨o, ho, hc, n, hd⟩ := pl.isList
      obtain ⟨as, h4, h5⟩ := Reps.reads I h3 rv q
      exact ⟨a :: as, .list ho hc hd (by simpa using h4), by simpa [PyData.canLay0] using h5⟩
  | .scr xs, _, _, _, h, r, e => by
    rw [Rep] at h; obtain ⟨a, vs, rfl, h2, h3⟩ := h
    rw [py] at e
    cases q : pyL xs with
    | none => rw [q] at e; cases e
    | some ps =>
      rw [q] at e; cases e
      cases r
      obtain ⟨its, rv, pl, hz⟩ := I.list h2
      obtain ⟨o, ho, hc, n, hd⟩ := pl.isList
      obtain ⟨as, h4, h5⟩ := Reps.reads I h3 rv q
      exact ⟨a :: as, .list ho hc hd (by simpa using h4), by simpa [PyData.canLay0] using h5⟩
  | .dK _ _, _, _, _, _, _, e => by rw [py] at e; cases e
  | .dT _ _, _, _, _, _, _, e => by rw [py] at e; cases e
  | .obj _ _ _, _, _, _, _, _, e => by rw [py] at e; cases e
  | .ty _, _, _, _, _, _, e => by rw [py] at e; cases e
theorem Reps.reads (I : Inv X pins σ H s) : ∀ {ds : List D} {vs : List V} {us : List Value} {ps : List PyData}, Reps X.K H ds vs → Vals vs us → pyL ds = some ps → ∃ as, ReadsAll s.heap us ps as ∧ PyData.canLayAll0 ps = true
  | [], _, _, _, h, r, e => by rw [h.unnil] at r; cases r; rw [pyL] at e; cases e; exact ⟨[], .nil, rfl⟩
  | d :: ds, _, _, _, h, r, e => by
    obtain ⟨v, t, rfl, h1, h2⟩ := h.uncons
    cases r with
    | cons r1 r2 =>
      rw [pyL] at e
      cases q1 : py d with
      | none => rw [q1] at e; cases e
      | some p =>
        rw [q1] at e
        cases q2 : pyL ds with
        | none => rw [q2] at e; cases e
        | some ps =>
          rw [q2] at e
          cases e
          obtain ⟨as, g1, g2⟩ := Rep.reads I h1 r1 q1
          obtain ⟨bs, g3, g4⟩ := Reps.reads I h2 r2 q2
          exact ⟨as ++ bs, .cons g1 g3, by simp [PyData.canLayAll0, g2, g4]⟩
end
end
noncomputable def DEEP : Nat := 60
noncomputable def eqD : G2 := fun a b => match py a, py b with
  | some p, some q => if p.depth ≤ DEEP then some (.fz, .bl (p.eqv q)) else none
  | _, _ => none
noncomputable def neD : G2 := fun a b => match py a, py b with
  | some p, some q => if p.depth ≤ DEEP then some (.fz, .bl (!p.eqv q)) else none
  | _, _ => none
noncomputable def itemsD : D → Option (List D)
  | .lst xs => some xs
  | .scr xs => some xs
  | .tup xs => some xs
  | _ => none
noncomputable def inL : G2 := fun a b => match py a, (itemsD b).bind pyL with
  | some p, some qs => if p.depth ≤ DEEP then some (.fz, .bl (qs.any fun q => q.eqv p)) else none
  | _, _ => none
noncomputable def notInL : G2 := fun a b => match py a, (itemsD b).bind pyL with
  | some p, some qs => if p.depth ≤ DEEP then some (.fz, .bl (!qs.any fun q => q.eqv p)) else none
  | _, _ => none
section
variable {X : Cx}
noncomputable def rP (K : PySem.W.Frag) (g : G2) : R2 := fun x y H Q => ∃ dx dy d, Rep K H dx x ∧ Rep K H dy y ∧ g dx dy = some (.fz, .bl d) ∧ Q (.bl d) H
theorem ok_P {K : PySem.W.Frag} {g : G2} (hg : ∀ a b k d, g a b = some (k, d) → ∃ t, k = .fz ∧ d = .bl t) : OkOp K (rP K g) g := by
  intro F H dx dy x y k d Q s rx ry e q
  obtain ⟨t, rfl, rfl⟩ := hg _ _ _ _ e
  exact ⟨dx, dy, t, rx.rep s, ry.rep s, e, q F _ H (.pure (.refl s) (by rw [Rep]))⟩
theorem eqD_bl (a b : D) (k : Kd) (d : D) (e : eqD a b = some (k, d)) : ∃ t, k = .fz ∧ d = .bl t := by
  unfold eqD at e; split at e
  · split at e
    · cases e; exact ⟨_, rfl, rfl⟩
    · cases e
  · cases e
theorem neD_bl (a b : D) (k : Kd) (d : D) (e : neD a b = some (k, d)) : ∃ t, k = .fz ∧ d = .bl t := by
  unfold neD at e; split at e
  · split at e
    · cases e; exact ⟨_, rfl, rfl⟩
    · cases e
  · cases e
theorem notInL_bl (a b : D) (k : Kd) (d : D) (e : notInL a b = some (k, d)) : ∃ t, k = .fz ∧ d = .bl t := by
  unfold notInL at e; split at e
  · split at e
    · cases e; exact ⟨_, rfl, rfl⟩
    · cases e
  · cases e
theorem c_eq (hu : X.A.units + 100 < cLine) : CmpOk X .Eq eqD := by
  refine ⟨rP X.K eqD, fun pins s σ H x y v u Q I rx ry h => ?_, ok_P eqD_bl⟩
  obtain ⟨dx, dy, t, hx, hy, e, q⟩ := h
  unfold eqD at e
  split at e
  · rename_i p q' e1 e2
    split at e
    · rename_i hd
      have e' : PyData.eqv p q' = t := by injection e with e; injection e with _ e; injection e
      obtain ⟨as, r1, c1⟩ := hx.reads I rx e1
      obtain ⟨bs, r2, c2⟩ := hy.reads I ry e2
      refine SeqAt.compareEq_reads r1 r2 c1 c2 (by have := Nat.min_le_left p.depth q'.depth; unfold DEEP at hd; omega) ?_
      rw [e']
      exact ⟨.bl t, H, I, rfl, q⟩
    · cases e
  · cases e
theorem c_ne (hu : X.A.units + 100 < cLine) : CmpOk X .NotEq neD := by
  refine ⟨rP X.K neD, fun pins s σ H x y v u Q I rx ry h => ?_, ok_P neD_bl⟩
  obtain ⟨dx, dy, t, hx, hy, e, q⟩ := h
  unfold neD at e
  split at e
  · rename_i p q' e1 e2
    split at e
    · rename_i hd
      have e' : (!PyData.eqv p q') = t := by injection e with e; injection e with _ e; injection e
      obtain ⟨as, r1, c1⟩ := hx.reads I rx e1
      obtain ⟨bs, r2, c2⟩ := hy.reads I ry e2
      refine SeqAt.compareNe_reads r1 r2 c1 c2 (by have := Nat.min_le_left p.depth q'.depth; unfold DEEP at hd; omega) ?_
      rw [e']
      exact ⟨.bl t, H, I, rfl, q⟩
    · cases e
  · cases e
theorem items_reads {pins : List (Addr × Obj)} {σ : L2.St} {H : Hp} {s : Shared} (I : Inv X pins σ H s) {d : D} {v : V} {u : Value} {xs : List D} {ps : List PyData} (h : Rep X.K H d v) (r : RelV v u) (e : itemsD d = some xs) (ep : pyL xs = some ps) :
    PyData.canLayAll0 ps = true ∧ ((∃ as, Reads s.heap u (.list ps) as) ∨ ∃ as, Reads s.heap u (.tuple ps) as) := by
  cases d <;> simp only [itemsD] at e <;> first | cases e | skip
  · obtain ⟨as, h1, h2⟩ := h.reads I r (show py (.tup xs) = some (.tuple ps) by rw [py, ep]; rfl)
    exact ⟨by simpa [PyData.canLay0] using h2, .inr ⟨as, h1⟩⟩
  · obtain ⟨as, h1, h2⟩ := h.reads I r (show py (.lst xs) = some (.list ps) by rw [py, ep]; rfl)
    exact ⟨by simpa [PyData.canLay0] using h2, .inl ⟨as, h1⟩⟩
  · obtain ⟨as, h1, h2⟩ := h.reads I r (show py (.scr xs) = some (.list ps) by rw [py, ep]; rfl)
    exact ⟨by simpa [PyData.canLay0] using h2, .inl ⟨as, h1⟩⟩
theorem c_notinL (hu : X.A.units + 100 < cLine) : CmpOk X .NotIn notInL := by
  refine ⟨rP X.K notInL, fun pins s σ H x y v u Q I rx ry h => ?_, ok_P notInL_bl⟩
  obtain ⟨dx, dy, t, hx, hy, e, q⟩ := h
  unfold notInL at e
  split at e
  · rename_i p qs e1 e2
    split at e
    · rename_i hd
      have e' : (!qs.any fun q => q.eqv p) = t := by injection e with e; injection e with _ e; injection e
      cases q1 : itemsD dy with
      | none => rw [q1] at e2; cases e2
      | some xs =>
        rw [q1] at e2
        obtain ⟨as, r1, c1⟩ := hx.reads I rx e1
        obtain ⟨c2, r2⟩ := items_reads I hy ry q1 e2
        have hu' : X.A.units + 1 + min (PyData.depthAll qs) p.depth < cLine := by have := Nat.min_le_right (PyData.depthAll qs) p.depth; unfold DEEP at hd; omega
        rcases r2 with ⟨bs, r2⟩ | ⟨bs, r2⟩
        · exact SeqAt.notIn_list_reads r2 r1 c2 c1 hu' (by rw [e']; exact ⟨.bl t, H, I, rfl, q⟩)
        · exact SeqAt.notIn_tuple_reads r2 r1 c2 c1 hu' (by rw [e']; exact ⟨.bl t, H, I, rfl, q⟩)
    · cases e
  · cases e
end
theorem room_u {k : Nat} {A : Around} (hr : Room k A) : A.units + 100 < cLine := by have := hr.un; omega
theorem len_s {P : List Value → Prop} {p : Str} {ps : List Str} (k : ∀ a l, l.length = ps.length → P (a :: l)) (us : List Value) (h : us.length = (p :: ps).length) : P us := by
  cases us with
  | nil => cases h
  | cons a l => exact k a l (Nat.succ.inj h)
theorem len_0 {P : List Value → Prop} (k : P []) (us : List Value) (h : us.length = ([] : List Str).length) : P us := by
  cases us with
  | nil => exact k
  | cons a l => cases h
end L3
set_option Elab.async false
set_option linter.all false
set_option maxRecDepth 100000
namespace L3
open PySem L2
section
variable {K : PySem.W.Frag} {X : Cx}
variable {F0 H0 : Hp} {Ψ : Psi} {a b c e : Expr} {es : List Expr} {f f1 f2 f3 : Ev → R} {fs : Ev → RA} {pos p : Pos}
theorem v_min2 (hc : X.calm = true) (hm : X.mg "min" = none) (ha : VA X F0 H0 Ψ (e :: es) fs) (hgl : Gl X "min" := by rfl) (he : starEach (e :: es) X.env = (false, eval e X.env) :: starEach es X.env := by rfl) (hpl : (backTo pos (starEach es X.env)).any (·.1) = false := by rfl) : VE X F0 H0 Ψ (.Call (.Name "min" p) (e :: es) [] pos) (eCall min2D fs) := v_callB (call_min2 hc) ok_min2 hm (by rfl) ha hgl (by decide) (by decide) he hpl
theorem v_max2 (hc : X.calm = true) (hm : X.mg "max" = none) (ha : VA X F0 H0 Ψ (e :: es) fs) (hgl : Gl X "max" := by rfl) (he : starEach (e :: es) X.env = (false, eval e X.env) :: starEach es X.env := by rfl) (hpl : (backTo pos (starEach es X.env)).any (·.1) = false := by rfl) : VE X F0 H0 Ψ (.Call (.Name "max" p) (e :: es) [] pos) (eCall max2D fs) := v_callB (call_max2 hc) ok_max2 hm (by rfl) ha hgl (by decide) (by decide) he hpl
end
end L3
set_option Elab.async false
set_option linter.all false
set_option maxRecDepth 100000
namespace L3
open PySem L2
section
variable {κ : Type} [DecidableEq κ]
noncomputable def dGet : List κ → List D → κ → Option D
  | k :: ks, x :: xs, q => if k = q then some x else dGet ks xs q
  | _, _, _ => none
noncomputable def dPutK (ks : List κ) (k : κ) : List κ := if k ∈ ks then ks else ks ++ [k]
noncomputable def dPutV (ks : List κ) (xs : List D) (k : κ) (d : D) : List D := if k ∈ ks then List.zipWith (fun k' x => if k' = k then d else x) ks xs else xs ++ [d]
variable {K : PySem.W.Frag} {F : Hp}
theorem val_get {k : κ} : ∀ {ks : List κ} {xs : List D} {vs : List V}, Reps K F xs vs → ks.length = vs.length → match dGet ks xs k with
    | some d => ∃ v, valV (ks.zip vs) k = some v ∧ Rep K F d v
    | none => valV (ks.zip vs) k = none
  | [], xs, vs, _, _ => by simp [dGet, valV_nil]
  | q :: ks, [], vs, r, h => by rw [r.unnil] at h; simp at h
  | q :: ks, x :: xs, _, r, h => by
    obtain ⟨v, vs, rfl, rv, rs⟩ := r.uncons
    rw [dGet, List.zip_cons_cons]
    by_cases e : q = k
    · rw [if_pos e, valV_pos e]; exact ⟨v, rfl, rv⟩
    · rw [if_neg e, valV_neg e]; exact val_get rs (by simpa using h)
theorem val_some {k : κ} {ks : List κ} {xs : List D} {vs : List V} {d : D} (r : Reps K F xs vs) (h : ks.length = vs.length) (e : dGet ks xs k = some d) : ∃ v, valV (ks.zip vs) k = some v ∧ Rep K F d v := by
  have := val_get (k := k) r h
  rw [e] at this; exact this
theorem val_isSome {k : κ} {ks : List κ} {xs : List D} {vs : List V} (r : Reps K F xs vs) (h : ks.length = vs.length) : (valV (ks.zip vs) k).isSome = (dGet ks xs k).isSome := by
  have := val_get (k := k) r h
  cases e : dGet ks xs k with
  | none => rw [e] at this; rw [this]; rfl
  | some d => rw [e] at this; obtain ⟨v, e, _⟩ := this; rw [e]; rfl
theorem any_zip {k : κ} : ∀ {ks : List κ} {vs : List V}, ks.length = vs.length → ((ks.zip vs).any (fun kv => decide (kv.1 = k)) = true ↔ k ∈ ks)
  | [], _, _ => by simp
  | q :: ks, [], h => by simp at h
  | q :: ks, v :: vs, h => by
    rw [List.zip_cons_cons, List.any_cons, Bool.or_eq_true, any_zip (by simpa using h), List.mem_cons, decide_eq_true_iff]
    exact or_congr eq_comm Iff.rfl
theorem put_zip {k : κ} {ks : List κ} {xs : List D} {vs : List V} {d : D} {v : V} (r : Reps K F xs vs) (h : ks.length = vs.length) (rv : Rep K F d v) :
    ∃ vs', putK (ks.zip vs) k v = (dPutK ks k).zip vs' ∧ (dPutK ks k).length = vs'.length ∧ Reps K F (dPutV ks xs k d) vs' := by
  unfold putK dPutK dPutV
  by_cases hk : k ∈ ks
  · rw [if_pos ((any_zip h).2 hk), if_pos hk, if_pos hk]
    clear hk
    refine ⟨List.zipWith (fun k' x => if k' = k then v else x) ks vs, ?_, by simp [h], ?_⟩
    · clear r
      induction ks generalizing vs with
      | nil => rfl
      | cons q ks ih =>
        cases vs with
        | nil => simp at h
        | cons u vs =>
          simp only [List.zip_cons_cons, List.map_cons, List.zipWith_cons_cons]
          rw [ih (by simpa using h)]
          by_cases e : q = k <;> simp [e]
    · induction ks generalizing vs xs with
      | nil => exact .nil
      | cons q ks ih =>
        cases xs with
        | nil => rw [r.unnil]; exact .nil
        | cons x xs =>
          obtain ⟨u, vs', rfl, ru, rs⟩ := r.uncons
          simp only [List.zipWith_cons_cons]
          refine .cons ?_ (ih rs (by simpa using h))
          by_cases e : q = k <;> simp [e] <;> assumption
  · have hk' : ¬ ((ks.zip vs).any (fun kv => decide (kv.1 = k)) = true) := fun z => hk ((any_zip h).1 z)
    rw [if_neg hk', if_neg hk, if_neg hk]
    exact ⟨vs ++ [v], by rw [List.zip_append h]; rfl, by simp [h], r.app (.cons rv .nil)⟩
end
noncomputable def keyD : D → Option Key
  | .int i => some (.inl i)
  | .str x => some (.inr x)
  | _ => none
noncomputable def keysD : List D → Option (List Key)
  | [] => some []
  | d :: ds => (keyD d).bind fun k => (keysD ds).map (k :: ·)
section
variable {K : PySem.W.Frag} {F H : Hp}
theorem key_is {d : D} {k : Key} {v : V} (e : keyD d = some k) (r : RdV K F H d v) : v = kV k := by
  cases d <;> simp only [keyD] at e <;> cases e
  · rw [r.int]; rfl
  · rw [r.str]; rfl
theorem keys_are : ∀ {ds : List D} {ks : List Key} {vs : List V}, keysD ds = some ks → Reps K F ds vs → vs = ks.map kV
  | [], _, _, e, r => by cases e; rw [r.unnil]; rfl
  | d :: ds, ks, _, e, r => by
    obtain ⟨v, vs, rfl, rv, rs⟩ := r.uncons
    simp only [keysD] at e
    cases e1 : keyD d with
    | none => rw [e1] at e; cases e
    | some k =>
      rw [e1] at e
      cases e2 : keysD ds with
      | none => rw [e2] at e; cases e
      | some ks' =>
        rw [e2] at e; cases e
        rw [keys_are e2 rs, key_is (H := F) e1 (.inl rv)]; rfl
theorem RdV.dK {ks : List Key} {xs : List D} {v : V} (s : Same F H) (h : RdV K F H (.dK ks xs) v) : ∃ a vs, v = .ref a ∧ H a = some (.dK (ks.zip vs)) ∧ ks.length = vs.length ∧ Reps K F xs vs := by
  rcases h with h | ⟨a, h1, vs, h⟩
  · rw [Rep] at h
    obtain ⟨a, vs, h1, h2, h3⟩ := h
    exact ⟨a, vs, h1, s _ _ h2, h3⟩
  · exact ⟨a, vs, h1, h⟩
theorem RdV.dT {ks : List (List Key)} {xs : List D} {v : V} (s : Same F H) (h : RdV K F H (.dT ks xs) v) : ∃ a vs, v = .ref a ∧ H a = some (.dT (ks.zip vs)) ∧ ks.length = vs.length ∧ Reps K F xs vs := by
  rcases h with h | ⟨a, h1, vs, h⟩
  · rw [Rep] at h
    obtain ⟨a, vs, h1, h2, h3⟩ := h
    exact ⟨a, vs, h1, s _ _ h2, h3⟩
  · exact ⟨a, vs, h1, h⟩
noncomputable def lookD : D → D → Option (Option D)
  | .dK ks xs, d => (keyD d).map (dGet ks xs)
  | .dT ks xs, .tup l => (keysD l).map (dGet ks xs)
  | _, _ => none
theorem look_get {a b : D} {o : Option D} {x y : V} (s : Same F H) (e : lookD a b = some o) (rx : RdV K F H a x) (ry : RdV K F H b y) : ∃ p ov, x = .ref p ∧ DGet H p y ov ∧ (∀ d, o = some d → ∃ v, ov = some v ∧ Rep K F d v) ∧ ov.isSome = o.isSome := by
  cases a with
  | dK ks xs =>
    obtain ⟨p, vs, rfl, h1, h2, h3⟩ := rx.dK s
    simp only [lookD] at e
    cases e1 : keyD b with
    | none => rw [e1] at e; cases e
    | some k =>
      rw [e1] at e; cases e
      rw [key_is e1 ry]
      exact ⟨p, _, rfl, .k h1, fun d e => val_some h3 h2 e, val_isSome h3 h2⟩
  | dT ks xs =>
    obtain ⟨p, vs, rfl, h1, h2, h3⟩ := rx.dT s
    cases b with
    | tup l =>
      simp only [lookD] at e
      cases e1 : keysD l with
      | none => rw [e1] at e; cases e
      | some k =>
        rw [e1] at e; cases e
        obtain ⟨q, us, rfl, g1, g2⟩ := ry.tup s
        rw [keys_are e1 g2] at g1
        exact ⟨p, _, rfl, .t h1 g1, fun d e => val_some h3 h2 e, val_isSome h3 h2⟩
    | _ => cases e
  | _ => cases e
noncomputable def getK : G2 := fun a b => match lookD a b with
  | some (some d) => some (.fz, d)
  | _ => none
noncomputable def rDGet : R2 := fun x y H Q => ∃ a v, x = .ref a ∧ DGet H a y (some v) ∧ Q v H
theorem ok_getK : OkOp K rDGet getK := by
  intro F H dx dy x y k d Q s rx ry e q
  unfold getK at e
  split at e
  · rename_i d' e1
    cases e
    obtain ⟨p, ov, rfl, g, h, _⟩ := look_get s e1 rx ry
    obtain ⟨v, rfl, rv⟩ := h d rfl
    exact ⟨p, v, rfl, g, q F v H (.pure (.refl s) rv)⟩
  · cases e
variable {X : Cx}
open PySem.Spec PyProof.Rows in
theorem ix_dict (hu : X.A.units + 1 < cLine) : IxR X rDGet := by
  intro value slice pins s σ H x y v u Q I rx ry h hs
  obtain ⟨a, w', rfl, g, q⟩ := h
  obtain rfl : v = Value.ref a := rx
  have hT := dict_typeIs I g
  unfold subscriptTail
  refine wpAny_bind ?_
  rw [getitemInPython_of_ne hT.not_modules]
  refine wpAny_bind (wpAny_specialOf hT PySem.F.slot_dict_getitem.lookup ?_)
  have fin : wpAny (model X.prog X.w) X.A (subscripted slice false (.ref a) u) (fun r s₃ => wpAny (model X.prog X.w) X.A (letTemporaryGo value (.ref a) r >>= fun _ => pure r) (EP X pins σ Q) X.xe s₃) X.xe s := by
    rw [hs]
    exact wpAny_operating (wpAny_mono (d_getItem hu I g ry fun w'' s' I' rw' => (⟨w', H, I', rw', q⟩ : EP X pins σ Q w'' s')) (fun r s₃ h₃ => wpAny_bind (wpAny_letTemporaryGo (wpAny_pure h₃))) fun _ _ x => x)
  first
    | exact wpAny_pure (wpAny_bind fin)
    | exact wpAny_bind (wpAny_pure (wpAny_bind fin))
    | exact wpAny_bind fin
noncomputable def idxD : G2 := fun a b => (idxL a b).or (getK a b)
theorem v_idx {F0 H0 : Hp} {Ψ : Psi} {a b : Expr} {f1 f2 : Ev → R} {pos : Pos} (hu : X.A.units + 100 < cLine) (ha : VE X F0 H0 Ψ a f1) (hb : VE X F0 H0 Ψ b f2) (hs : PlainIx b := by exact fun _ _ => rfl) : VE X F0 H0 Ψ (.Subscript a b pos) (eOp idxD f1 f2) := (pe_ix (ix_seq.or (ix_dict (by omega))) ha hb hs).mono fun _ _ _ h => tOp_of (ok_idxL.or ok_getK) h
noncomputable def hasNotK : G2 := fun a b => (lookD b a).map fun o => (.fz, .bl !o.isSome)
theorem ok_hasNotK : OkOp K (fun y x H Q => ∃ a o, x = .ref a ∧ DGet H a y o ∧ Q (.bl (!o.isSome)) H) hasNotK := by
  intro F H dx dy x y k d Q s rx ry e q
  unfold hasNotK at e
  cases e1 : lookD dy dx with
  | none => rw [e1] at e; cases e
  | some o =>
    rw [e1] at e; cases e
    obtain ⟨p, ov, rfl, g, _, h⟩ := look_get s e1 ry rx
    exact ⟨p, ov, rfl, g, by rw [h]; exact q F _ H (.pure (.refl s) (by rw [Rep]))⟩
theorem OpR.or' {f : Value → Value → Sem Value} {r r' : R2} (h : OpR X f r) (h' : OpR X f r') : OpR X f (fun x y H Q => r x y H Q ∨ r' x y H Q) := by
  intro pins s σ H x y v u Q I rx ry q
  rcases q with q | q
  · exact h pins s σ H x y v u Q I rx ry q
  · exact h' pins s σ H x y v u Q I rx ry q
theorem op_hasNotK (hu : X.A.units + 1 < cLine) : OpR X (compareOp .NotIn) (fun y x H Q => ∃ a o, x = .ref a ∧ DGet H a y o ∧ Q (.bl (!o.isSome)) H) := by
  intro pins s σ H x y v u Q I rx ry h
  obtain ⟨a, o, rfl, g, q⟩ := h
  obtain rfl : u = Value.ref a := ry
  exact d_notIn hu I g rx fun s' I' => ⟨.bl (!o.isSome), H, I', rfl, q⟩
noncomputable def notInD : G2 := fun a b => (notInL a b).or (hasNotK a b)
theorem c_notin (hu : X.A.units + 100 < cLine) : CmpOk X .NotIn notInD := let ⟨_, h1, h2⟩ := c_notinL hu; ⟨_, OpR.or' h1 (op_hasNotK (by omega)), h2.or ok_hasNotK⟩
variable {F0 H0 : Hp} {Ψ : Psi} {σ : St} {pos : Pos}
theorem v_dT : VE X F0 H0 Ψ (.Dict [] [] pos) (fun _ => .ok .ow (.dT [] [])) := pe_dnewT.mono fun σ H Q h => by
  obtain ⟨F, ev, fi, m⟩ := h
  intro p hp
  exact m F (.ref p) _ (Post.own (.refl fi.sub) hp fun H2 e => ⟨[], e, rfl, .nil⟩)
end
end L3
set_option Elab.async false
set_option linter.all false
set_option maxRecDepth 100000
namespace L3
open PySem L2
section
variable {X : Cx} {K : PySem.W.Frag} {F0 H0 F H F' H' : Hp} {Ψ : Psi} {σ : St} {ev : Ev}
noncomputable def setDG (i : Nat) (f v : Ev → R) (ev : Ev) : Fl := match v ev with
  | .ok .bo _ => .no
  | .ok _ d => match ev[i]? with
    | some (some (.ow, .dK ks xs)) => match f ev with
      | .ok _ kd => match keyD kd with
        | some k => if ks.length < LIM then .nx (ev.set i (some (.ow, .dK (dPutK ks k) (dPutV ks xs k d)))) else .no
        | none => .no
      | .ex C => .ex C
      | .no => .no
    | some (some (.ow, .dT ks xs)) => match f ev with
      | .ok _ (.tup l) => match keysD l with
        | some k => if ks.length < LIM then .nx (ev.set i (some (.ow, .dT (dPutK ks k) (dPutV ks xs k d)))) else .no
        | none => .no
      | .ex C => .ex C
      | _ => .no
    | _ => .no
  | .ex C => .ex C
  | .no => .no
noncomputable def rSetD : V → V → V → Hp → (Hp → Prop) → Prop := fun o i v H Q => ∃ a H', o = .ref a ∧ DPut H a i v H' ∧ Q H'
theorem set_dict (hu : X.A.units + 1 < cLine) : PSet X rSetD := by
  intro pins s σ H o i v ov iv u Q I ro ri rv h
  obtain ⟨a, H', rfl, g, q⟩ := h
  obtain rfl : ov = Value.ref a := ro
  exact d_setItem hu I g ri rv fun s' I' => ⟨H', I', q⟩
theorem FI.owD {i : Nat} {ks : List Key} {xs : List D} (fi : FI K F0 H0 F H ev σ) (e : ev[i]? = some (some (.ow, .dK ks xs))) : ∃ a vs, σ[i]? = some (some (.ref a)) ∧ H a = some (.dK (ks.zip vs)) ∧ ks.length = vs.length ∧ Reps K F xs vs := by
  obtain ⟨_, v, e1, a, rfl, h1, h2, vs, h3, h4⟩ := fi.at_ i _ _ e
  exact ⟨a, vs, e1, h3, h4⟩
theorem FI.owT {i : Nat} {ks : List (List Key)} {xs : List D} (fi : FI K F0 H0 F H ev σ) (e : ev[i]? = some (some (.ow, .dT ks xs))) : ∃ a vs, σ[i]? = some (some (.ref a)) ∧ H a = some (.dT (ks.zip vs)) ∧ ks.length = vs.length ∧ Reps K F xs vs := by
  obtain ⟨_, v, e1, a, rfl, h1, h2, vs, h3, h4⟩ := fi.at_ i _ _ e
  exact ⟨a, vs, e1, h3, h4⟩
theorem tSetD_of {i : Nat} {f v : Ev → R} {E : Ends} (q : tSv K F0 H0 Ψ (setDG i f v) E σ H) : tAsg (tV K F0 H0 Ψ v) (gSub (tVar i) (tV K F0 H0 Ψ f) rSetD) E σ H := by
  obtain ⟨F, ev, fi, m⟩ := q
  refine ⟨F, ev, fi, ?_⟩
  unfold setDG at m
  cases h3 : v ev with
  | no => rw [h3] at m; exact m
  | ex C => rw [h3] at m; exact m
  | ok k d =>
    rw [h3] at m
    intro F1 y H1 p
    have go : ∀ F2, Post K F H .fz d F2 y H1 → FlowTo K F0 H0 Ψ F E (match ev[i]? with
      | some (some (.ow, .dK ks xs)) => match f ev with
        | .ok _ kd => match keyD kd with
          | some k => if ks.length < LIM then .nx (ev.set i (some (.ow, .dK (dPutK ks k) (dPutV ks xs k d)))) else .no
          | none => .no
        | .ex C => .ex C
        | .no => .no
      | some (some (.ow, .dT ks xs)) => match f ev with
        | .ok _ (.tup l) => match keysD l with
          | some k => if ks.length < LIM then .nx (ev.set i (some (.ow, .dT (dPutK ks k) (dPutV ks xs k d)))) else .no
          | none => .no
        | .ex C => .ex C
        | _ => .no
      | _ => .no) → gSub (tVar i) (tV K F0 H0 Ψ f) rSetD y σ H1 E.nx := fun F2 p2 m => by
      split at m
      · rename_i ks xs e
        obtain ⟨a, vs, e1, h1, h2, h2'⟩ := fi.owD e
        refine ⟨.ref a, e1, F2, ev, fi.later p2.st, ?_⟩
        cases h4 : f ev with
        | no => rw [h4] at m; exact m
        | ex C => rw [h4] at m; exact m
        | ok k' d' =>
          rw [h4] at m
          intro F3 z H3 p3
          dsimp only at m
          cases h5 : keyD d' with
          | none => rw [h5] at m; exact m.elim
          | some kk =>
            rw [h5] at m
            dsimp only at m
            by_cases hl : ks.length < LIM
            · rw [if_pos hl] at m
              have st := p2.st.trans p3.st
              obtain ⟨vs', g1, g2, g3⟩ := put_zip (k := kk) (h2'.mono st.up) h2 (p2.val.later p3.st)
              refine ⟨a, _, rfl, ?_, m F3 _ σ st.up ((fi.later st).mut e e1 fun H2 z => ⟨vs', z, g2, g3⟩)⟩
              rw [key_is h5 p3.val.rd, ← g1]
              exact .k (st.keep _ _ h1) (by rw [List.length_zip, ← h2, Nat.min_self]; exact Nat.lt_of_lt_of_le hl sizeLine_ge)
            · rw [if_neg hl] at m; exact m.elim
      · rename_i ks xs e
        obtain ⟨a, vs, e1, h1, h2, h2'⟩ := fi.owT e
        refine ⟨.ref a, e1, F2, ev, fi.later p2.st, ?_⟩
        cases h4 : f ev with
        | no => rw [h4] at m; exact m
        | ex C => rw [h4] at m; exact m
        | ok k' d' =>
          rw [h4] at m
          intro F3 z H3 p3
          cases d' with
          | tup l =>
            dsimp only at m
            cases h5 : keysD l with
            | none => rw [h5] at m; exact m.elim
            | some kk =>
              rw [h5] at m
              dsimp only at m
              by_cases hl : ks.length < LIM
              · rw [if_pos hl] at m
                have st := p2.st.trans p3.st
                obtain ⟨vs', g1, g2, g3⟩ := put_zip (k := kk) (h2'.mono st.up) h2 (p2.val.later p3.st)
                obtain ⟨b, us, rfl, hb, hus⟩ := p3.val.rd.tup p3.st.sub
                rw [keys_are h5 hus] at hb
                refine ⟨a, _, rfl, ?_, m F3 _ σ st.up ((fi.later st).mut e e1 fun H2 z => ⟨vs', z, g2, g3⟩)⟩
                rw [← g1]
                exact .t (st.keep _ _ h1) hb (by rw [List.length_zip, ← h2, Nat.min_self]; exact Nat.lt_of_lt_of_le hl sizeLine_ge)
              · rw [if_neg hl] at m; exact m.elim
          | _ => exact m.elim
      · exact m.elim
    cases k with
    | bo => exact m.elim
    | fz => exact go F1 p m
    | ow => obtain ⟨F2, p2⟩ := p.frz; exact go F2 p2 m
noncomputable def isLst : Option (Option (Kd × D)) → Bool
  | some (some (.ow, .lst _)) => true
  | _ => false
noncomputable def setItG (i : Nat) (f v : Ev → R) (ev : Ev) : Fl := if isLst ev[i]? = true then setLG i f v ev else setDG i f v ev
variable {e i' : Expr} {f v : Ev → R} {x : Str} {p apos cpos pos : Pos}
theorem PS.or {st : Stmt} {t t' : TS} (h : PS X st t) (h' : PS X st t') : PS X st (fun D σ H => t D σ H ∨ t' D σ H) := fun pins s σ H D I q => by
  rcases q with q | q
  · exact h pins s σ H D I q
  · exact h' pins s σ H D I q
theorem vs_setit (hu : X.A.units + 100 < cLine) (i : Nat) (he : VE X F0 H0 Ψ e v) (hi : VE X F0 H0 Ψ i' f) (hN : X.N[i]? = some x := by rfl) (hv : Vis X.env.scope x := by first | exact Or.inl rfl | exact Or.inr (Or.inl rfl) | exact Or.inr (Or.inr rfl)) (hd : (x == ("__debug__" : Str)) = false := by decide)
    (hcd : (x == ("__classdict__" : Str)) = false := by decide)
    (ha : ∀ v, assign (.Subscript (.Name x p) i' apos) X.env v = (do
      let ov ← holding [v] (eval (.Name x p) X.env)
      let iv ← holding [v, ov] (eval i' X.env)
      standAt apos
      holding [v, ov, iv] (setItem ov iv v)
      release [v, ov, iv] []) := by intro _; rfl)
    (hs : swapsWithSole [.Subscript (.Name x p) i' apos] e pos.line X.env = pure false := by rfl) (hw : swappedStores [.Subscript (.Name x p) i' apos] e X.env = pure none := by rfl)
    (h1 : (assignEach [.Subscript (.Name x p) i' apos] X.env).map (·.2) = [assign (.Subscript (.Name x p) i' apos) X.env] := by rfl) :
    VS X F0 H0 Ψ (.Assign [.Subscript (.Name x p) i' apos] e pos) (setItG i f v) :=
  (PS.or (ps_asg he (pg_sub (pe_var hN hv hd hcd) hi set_list ha) hs hw h1) (ps_asg he (pg_sub (pe_var hN hv hd hcd) hi (set_dict (by omega)) ha) hs hw h1)).mono fun E σ H q => by
    obtain ⟨F, ev, fi, m⟩ := q
    unfold setItG at m
    by_cases c : isLst ev[i]? = true
    · rw [if_pos c] at m; exact .inl (tSetLIt_of ⟨F, ev, fi, m⟩)
    · rw [if_neg c] at m; exact .inr (tSetD_of ⟨F, ev, fi, m⟩)
noncomputable abbrev G1 := D → Option (Kd × D)
noncomputable def un1 (g : G1) : R → R
  | .ok _ a => toR (g a)
  | r => r
noncomputable def eUn (g : G1) (f : Ev → R) (ev : Ev) : R := un1 g (f ev)
noncomputable def negD : G1
  | .int i => some (.fz, .int (-i))
  | _ => none
theorem v_neg {a : Expr} (ha : VE X F0 H0 Ψ a f) : VE X F0 H0 Ψ (.UnaryOp .USub a pos) (eUn negD f) := (pe_un un_neg ha).mono fun σ H Q h => by
  obtain ⟨F, ev, fi, m⟩ := h
  refine ⟨F, ev, fi, ?_⟩
  simp only [eUn] at m
  cases h1 : f ev with
  | no => rw [h1] at m; exact m
  | ex C => rw [h1] at m; exact m
  | ok k d =>
    rw [h1] at m
    intro F1 x H1 p1
    simp only [un1] at m
    cases d with
    | int i => exact ⟨i, p1.val.rd.int, m F1 _ H1 ⟨p1.st, by rw [Val, Rep]⟩⟩
    | _ => exact m.elim
noncomputable def chnR (g g' : G2) (r1 r2 : R) (r3 : R) : R := match r1 with
  | .ok _ a => match r2 with
    | .ok _ b => match g a b with
      | some (_, .bl t) => if t then op2 g' r2 r3 else .ok .fz (.bl false)
      | _ => .no
    | r => r
  | r => r
noncomputable def eChain (g g' : G2) (f1 f2 f3 : Ev → R) (ev : Ev) : R := chnR g g' (f1 ev) (f2 ev) (f3 ev)
theorem tChain_of {r r' : R2} {g g' : G2} {f1 f2 f3 : Ev → R} {Q : VK} (ho : OkOp K r g) (ho' : OkOp K r' g') (h : tV K F0 H0 Ψ (eChain g g' f1 f2 f3) σ H Q) : tChain r r' (tV K F0 H0 Ψ f1) (tV K F0 H0 Ψ f2) (tV K F0 H0 Ψ f3) σ H Q := by
  obtain ⟨F, ev, fi, m⟩ := h
  refine ⟨F, ev, fi, ?_⟩
  simp only [eChain] at m
  cases h1 : f1 ev with
  | no => rw [h1] at m; exact m
  | ex C => rw [h1] at m; exact m
  | ok k1 d1 =>
    rw [h1] at m
    intro F1 x H1 p1
    refine ⟨F1, ev, fi.later p1.st, ?_⟩
    cases h2 : f2 ev with
    | no => rw [h2] at m; exact m
    | ex C => rw [h2] at m; exact m
    | ok k2 d2 =>
      rw [h2] at m
      intro F2 y H2 p2
      simp only [chnR] at m
      have s12 := p1.st.trans p2.st
      cases e : g d1 d2 with
      | none => rw [e] at m; exact m.elim
      | some z =>
        obtain ⟨k, d⟩ := z
        rw [e] at m
        cases d with
        | bl t =>
          refine ho F2 H2 d1 d2 x y k (.bl t) _ p2.st.sub (p1.val.rd.later p2.st) p2.val.rd e fun F3 v3 H3 p3 => ⟨t, p3.val.rd.bl, ?_⟩
          have s3 := s12.trans p3.st
          cases t with
          | false =>
            rw [if_neg Bool.false_ne_true]
            exact m F3 _ H3 ⟨s3, by rw [Val, Rep]⟩
          | true =>
            rw [if_pos rfl]
            refine ⟨F3, ev, fi.later s3, ?_⟩
            have m : match op2 g' (.ok k2 d2) (f3 ev) with
              | .ok k d => ∀ F' v H', Post K F H k d F' v H' → Q v H'
              | .ex C => ∀ F' H', Step F0 H0 F' H' → Ψ C H'
              | .no => False := m
            cases h3 : f3 ev with
            | no => rw [h3] at m; exact m
            | ex C => rw [h3] at m; exact m
            | ok k4 d4 =>
              rw [h3] at m
              intro F4 w' H4 p4
              have m : match toR (g' d2 d4) with
                | .ok k d => ∀ F' v H', Post K F H k d F' v H' → Q v H'
                | .ex C => ∀ F' H', Step F0 H0 F' H' → Ψ C H'
                | .no => False := m
              cases e' : g' d2 d4 with
              | none => rw [e'] at m; exact m.elim
              | some z =>
                obtain ⟨k5, d5⟩ := z
                rw [e'] at m
                have s4 := s3.trans p4.st
                exact ho' F4 H4 d2 d4 y w' k5 d5 Q p4.st.sub ((p2.val.rd.later p3.st).later p4.st) p4.val.rd e' fun F5 v5 H5 p5 => m F5 v5 H5 ⟨s4.trans p5.st, p5.val.early s4.keep⟩
        | _ => exact m.elim
theorem v_chain {a b c : Expr} {op op' : CmpOp} {g g' : G2} {f1 f2 f3 : Ev → R} (hc : CmpOk X op g) (hc' : CmpOk X op' g') (ha : VE X F0 H0 Ψ a f1) (hb : VE X F0 H0 Ψ b f2) (hd : VE X F0 H0 Ψ c f3) (hm : lastMarks [op, op'] [b, c] = false := by with_unfolding_all rfl) :
    VE X F0 H0 Ψ (.Compare a [op, op'] [b, c] pos) (eChain g g' f1 f2 f3) := let ⟨_, ho, hg⟩ := hc; let ⟨_, ho', hg'⟩ := hc'; (pe_chain ho ho' ha hb hd hm).mono fun _ _ _ h => tChain_of hg hg' h
theorem vt_chain {a b c : Expr} {op op' : CmpOp} {g g' : G2} {f1 f2 f3 : Ev → R} (hc : CmpOk X op g) (hc' : CmpOk X op' g') (ha : VE X F0 H0 Ψ a f1) (hb : VE X F0 H0 Ψ b f2) (hd : VE X F0 H0 Ψ c f3) (hm : lastMarks [op, op'] [b, c] = false := by with_unfolding_all rfl) :
    VT X F0 H0 Ψ (.Compare a [op, op'] [b, c] pos) (eChain g g' f1 f2 f3) := let ⟨_, ho, hg⟩ := hc; let ⟨_, ho', hg'⟩ := hc'; (pt_chain ho ho' ha hb hd hm).mono fun σ H Q h => by
    obtain ⟨F, ev, fi, m⟩ := h
    exact tChain_of (K := X.K) (F0 := F0) (H0 := H0) (Ψ := Ψ) (f1 := f1) (f2 := f2) (f3 := f3) hg hg' (Q := fun x H' => ∃ k, x = .bl k ∧ Q k H') (by
      refine ⟨F, ev, fi, ?_⟩
      cases q : eChain g g' f1 f2 f3 ev with
      | no => rw [q] at m; exact m
      | ex C => rw [q] at m; exact m
      | ok k d =>
        rw [q] at m
        intro F' v H' p
        cases d with
        | bl b => exact ⟨b, p.val.rd.bl, m F' H' p.st⟩
        | _ => exact m.elim)
noncomputable def absD : GN
  | [.int i] => some (.fz, .int (if i < 0 then -i else i))
  | _ => none
theorem ok_abs : OkCall K (fun xs H Q => ∃ i, xs = [.int i] ∧ Q (.int (if i < 0 then -i else i)) H) absD := by
  intro F H ds vs k d Q s r e q
  unfold absD at e
  split at e
  · rename_i i
    cases e
    obtain ⟨v, _, rfl, rx, rfl⟩ := r
    exact ⟨i, by rw [rx.int], q F _ H (.pure (.refl s) (by rw [Rep]))⟩
  · cases e
theorem v_abs {es : List Expr} {fs : Ev → RA} {p : Pos} (hm : X.mg "abs" = none) (ha : VA X F0 H0 Ψ (e :: es) fs) (hgl : Gl X "abs" := by rfl) (he : starEach (e :: es) X.env = (false, eval e X.env) :: starEach es X.env := by rfl) (hpl : (backTo pos (starEach es X.env)).any (·.1) = false := by rfl) : VE X F0 H0 Ψ (.Call (.Name "abs" p) (e :: es) [] pos) (eCall absD fs) := v_callB call_abs ok_abs hm (by rfl) ha hgl (by decide) (by decide) he hpl
end
end L3
set_option Elab.async false
set_option linter.all false
set_option maxRecDepth 100000
namespace L2
open PySem PySem.Spec PyProof.Rows
section
variable {X : Cx} {e st : Expr} {te ts : TE} {pos p2 : Pos}
noncomputable def rStep (K : PySem.W.Frag) : V → V → Hp → VK → Prop := fun x k H Q => ∃ a xs, x = .ref a ∧ SqL K H a xs ∧ ((k = .int 1 ∧ ∀ p, H p = none → Q (.ref p) (upd H p (.lst xs))) ∨ (k = .int (-1) ∧ ∀ p, H p = none → Q (.ref p) (upd H p (.lst xs.reverse))))
theorem pick_one (items : Array Value) : slicePick items none none (some 1) = items := by
  have h := slicePick_plain items none none
  have e : slicePick items none none (some 1) = slicePick items none none none := rfl
  rw [e, h]
  simp
  rw [List.take_of_length_le (by simp)]
theorem pe_step (he : PE X e te) (hk : PE X st ts) : PE X (.Subscript e (.Slice none none (some st) p2) pos) (tOp (rStep X.K) te ts) := by
  intro pins s σ H Q I h
  refine Subscript_ (thn (he pins s σ H _ I h) fun v s1 ⟨x, H1, I1, r1, q1⟩ => ?_)
  refine wpAny_Slice ?_
  rw [evalPart_none]
  refine wpAny_pure (wpAny_pure ?_)
  rw [evalPart_some]
  refine thn (hk pins s1 σ H1 _ I1 q1) fun vk s3 ⟨k, H3, I3, rk, q3⟩ => ?_
  have I4 : Inv X pins σ H3 { s3 with heap := s3.heap.push { cls := .type "slice", data := .fields #[.none, .none, vk] } } := I3.kept (t' := s3.toks) fun b ob q => Heap.get?_push_of_some _ q
  obtain ⟨a, xs, rfl, hx, q⟩ := q3
  cases r1
  obtain ⟨its, r, ht, hz⟩ := I4.list hx
  have hlen := r.length
  show wpAny (model X.prog X.w) X.A (subscriptTail e (.Slice none none (some st) p2) (.ref a) (.ref s3.heap.objs.size)) (EP X pins σ Q) X.xe { s3 with heap := s3.heap.push { cls := .type "slice", data := .fields #[.none, .none, vk] } }
  refine tail_any (ops := [.ref a, .ref s3.heap.objs.size]) ht.isList.typeIs slot_list_getitem.lookup ?_ (by with_unfolding_all rfl)
  rcases q with ⟨rfl, q⟩ | ⟨rfl, q⟩ <;> obtain ⟨t, rfl⟩ := rk
  · refine wpAny_getItem_list_slice ht.isList (Heap.IsSliceOf.new ..) .none .none (.int 1 t) (by simp) ?_ (by rw [List.size_toArray] <;> omega)
    rw [pick_one]
    refine ⟨.ref _, _, I4.laid (t' := s3.toks) (o := .lst xs) (fun b ob q => Heap.get?_push_of_some _ q) (Nat.le_refl _) ?_, rfl, q _ (I4.hok.fresh (Nat.le_refl _))⟩
    exact ⟨hz, _, 0, r, Heap.get?_push_size _ rfl⟩
  · refine wpAny_getItem_list_slice ht.isList (Heap.IsSliceOf.new ..) .none .none (.int (-1) t) (by simp) ?_ (by rw [List.size_toArray] <;> omega)
    rw [PySem.W.krv_pick]
    refine ⟨.ref _, _, I4.laid (t' := s3.toks) (o := .lst xs.reverse) (fun b ob q => Heap.get?_push_of_some _ q) (Nat.le_refl _) ?_, rfl, q _ (I4.hok.fresh (Nat.le_refl _))⟩
    exact ⟨by simpa using hz, _, 0, r.reverse, Heap.get?_push_size _ rfl⟩
end
end L2
namespace L3
open PySem L2
section
variable {X : Cx} {K : PySem.W.Frag} {F0 H0 F H F' H' : Hp} {Ψ : Psi} {σ : St} {ev : Ev}
theorem Reps.rev : ∀ {ds : List D} {vs : List V}, Reps K F ds vs → Reps K F ds.reverse vs.reverse
  | [], _, h => by rw [h.unnil]; exact .nil
  | _ :: _, _, h => by obtain ⟨v, r, rfl, h1, h2⟩ := h.uncons; rw [List.reverse_cons, List.reverse_cons]; exact h2.rev.app (.cons h1 .nil)
noncomputable def stepD : G2
  | .lst xs, .int k => if k = 1 then some (.ow, .lst xs) else if k = -1 then some (.ow, .lst xs.reverse) else none
  | .scr xs, .int k => if k = 1 then some (.ow, .lst xs) else if k = -1 then some (.ow, .lst xs.reverse) else none
  | _, _ => none
theorem ok_step : OkOp K (rStep K) stepD := by
  intro F H dx dy x y k d Q s rx ry e q
  have go : ∀ (xs : List D) (i : Int) (a : Addr) (vs : List V), SqL K H a vs → Reps K F xs vs → y = .int i → (if i = 1 then some (Kd.ow, D.lst xs) else if i = -1 then some (.ow, .lst xs.reverse) else none) = some (k, d) → rStep K (.ref a) y H Q := fun xs i a vs hs hr hy e => by
    split at e
    · rename_i h1; cases e; subst h1
      exact ⟨a, vs, rfl, hs, .inl ⟨hy, fun p hp => q F _ _ (Post.own (.refl s) hp fun H2 e => ⟨_, e, hr⟩)⟩⟩
    · split at e
      · rename_i h1; cases e; subst h1
        exact ⟨a, vs, rfl, hs, .inr ⟨hy, fun p hp => q F _ _ (Post.own (.refl s) hp fun H2 e => ⟨_, e, hr.rev⟩)⟩⟩
      · cases e
  unfold stepD at e
  split at e <;> first | (cases e; done) | skip
  · obtain ⟨a, vs, rfl, h1, h2⟩ := rx.lst s
    exact go _ _ a vs (SqL.of h1) h2 ry.int e
  · obtain ⟨a, vs, rfl, h1, h2⟩ := rx.scr s
    exact go _ _ a vs h1 h2 ry.int e
theorem v_step {a st : Expr} {f1 f2 : Ev → R} {p2 pos : Pos} (ha : VE X F0 H0 Ψ a f1) (hb : VE X F0 H0 Ψ st f2) : VE X F0 H0 Ψ (.Subscript a (.Slice none none (some st) p2) pos) (eOp stepD f1 f2) := (pe_step ha hb).mono fun _ _ _ h => tOp_of ok_step h
noncomputable def cutG {α : Type} (xs : List α) (lo hi : Option Int) : List α := (xs.drop (HT.sIx xs.length 0 lo)).take (HT.sIx xs.length xs.length hi - HT.sIx xs.length 0 lo)
theorem Reps.cut {ds : List D} {vs : List V} (r : Reps K F ds vs) (lo hi : Option Int) : Reps K F (cutG ds lo hi) (cutV vs lo hi) := by
  unfold cutG cutV
  rw [r.length]
  exact (r.drop _).take _
noncomputable def slD : D → Option Int → Option Int → Option (Kd × D)
  | .lst xs, lo, hi => some (.ow, .lst (cutG xs lo hi))
  | .scr xs, lo, hi => some (.ow, .lst (cutG xs lo hi))
  | .tup xs, lo, hi => if ¬ (HT.sIx xs.length 0 lo = 0 ∧ HT.sIx xs.length xs.length hi = xs.length) then some (.fz, .tup (cutG xs lo hi)) else none
  | _, _, _ => none
inductive RO where | ok (o : Option Int) | ex (C : Addr) | no
noncomputable def oNo (_ : Ev) : RO := .ok none
noncomputable def oS : R → RO
  | .ok _ (.int i) => .ok (some i)
  | .ex C => .ex C
  | _ => .no
noncomputable def oSome (f : Ev → R) (ev : Ev) : RO := oS (f ev)
noncomputable def tVO (K : PySem.W.Frag) (F0 H0 : Hp) (Ψ : Psi) (f : Ev → RO) : TO := fun σ H Q => ∃ F ev, FI K F0 H0 F H ev σ ∧ match f ev with
  | .ok o => ∀ F' H', Step F H F' H' → Q o H'
  | .ex C => ∀ F' H', Step F0 H0 F' H' → Ψ C H'
  | .no => False
noncomputable def VO (X : Cx) (F0 H0 : Hp) (Ψ : Psi) (e : Option Expr) (f : Ev → RO) : Prop := PO X e (tVO X.K F0 H0 Ψ f)
theorem PO.mono' {e : Option Expr} {t t' : TO} (h : PO X e t) (i : ∀ σ H Q, t' σ H Q → t σ H Q) : PO X e t' := fun pins s σ H Q I q => h pins s σ H Q I (i σ H Q q)
theorem vo_none : VO X F0 H0 Ψ none oNo := PO.mono' po_none fun σ H Q h => by
  obtain ⟨F, ev, fi, m⟩ := h
  exact m F H fi.refl
theorem vo_some {e : Expr} {f : Ev → R} (h : VE X F0 H0 Ψ e f) : VO X F0 H0 Ψ (some e) (oSome f) := PO.mono' (po_some h) fun σ H Q h => by
  obtain ⟨F, ev, fi, m⟩ := h
  refine ⟨F, ev, fi, ?_⟩
  simp only [oSome] at m
  cases h1 : f ev with
  | no => rw [h1] at m; exact m
  | ex C => rw [h1] at m; exact m
  | ok k d =>
    rw [h1] at m
    intro F1 x H1 p
    cases d with
    | int i => exact ⟨i, p.val.rd.int, m F1 H1 p.st⟩
    | _ => exact m.elim
noncomputable def slR (r : R) (lo hi : RO) : R := match r with
  | .ok _ d => match lo with
    | .ok l => match hi with
      | .ok h => toR (slD d l h)
      | .ex C => .ex C
      | .no => .no
    | .ex C => .ex C
    | .no => .no
  | r => r
noncomputable def eSl (f : Ev → R) (fl fh : Ev → RO) (ev : Ev) : R := slR (f ev) (fl ev) (fh ev)
theorem v_sl {e : Expr} {lo hi : Option Expr} {f : Ev → R} {fl fh : Ev → RO} {p2 pos : Pos} (he : VE X F0 H0 Ψ e f) (hl : VO X F0 H0 Ψ lo fl) (hh : VO X F0 H0 Ψ hi fh) : VE X F0 H0 Ψ (.Subscript e (.Slice lo hi none p2) pos) (eSl f fl fh) :=
  (pe_slice (sl_list.or sl_tup) he hl hh).mono fun σ H Q h => by
    obtain ⟨F, ev, fi, m⟩ := h
    refine ⟨F, ev, fi, ?_⟩
    simp only [eSl] at m
    cases h1 : f ev with
    | no => rw [h1] at m; exact m
    | ex C => rw [h1] at m; exact m
    | ok k d =>
      rw [h1] at m
      intro F1 x H1 p1
      refine ⟨F1, ev, fi.later p1.st, ?_⟩
      simp only [slR] at m
      cases h2 : fl ev with
      | no => rw [h2] at m; exact m
      | ex C => rw [h2] at m; exact m
      | ok l =>
        rw [h2] at m
        intro F2 H2 s2
        refine ⟨F2, ev, (fi.later p1.st).later s2, ?_⟩
        cases h3 : fh ev with
        | no => rw [h3] at m; exact m
        | ex C => rw [h3] at m; exact m
        | ok hh' =>
          rw [h3] at m
          intro F3 H3 s3
          have m : match toR (slD d l hh') with
            | .ok k d => ∀ F' v H', Post X.K F H k d F' v H' → Q v H'
            | .ex C => ∀ F' H', Step F0 H0 F' H' → Ψ C H'
            | .no => False := m
          have st := (p1.st.trans s2).trans s3
          have rx := (p1.val.rd.later s2).later s3
          cases d with
          | lst xs =>
            obtain ⟨a, vs, rfl, h4, h5⟩ := rx.lst st.sub
            refine .inl ⟨a, vs, rfl, SqL.of h4, fun p hp => m F3 _ _ (Post.own st hp fun H2 e => ⟨_, e, h5.cut _ _⟩)⟩
          | scr xs =>
            obtain ⟨a, vs, rfl, h4, h5⟩ := rx.scr st.sub
            refine .inl ⟨a, vs, rfl, h4, fun p hp => m F3 _ _ (Post.own st hp fun H2 e => ⟨_, e, h5.cut _ _⟩)⟩
          | tup xs =>
            obtain ⟨a, vs, rfl, h4, h5⟩ := rx.tup st.sub
            simp only [slD] at m
            split at m
            · rename_i k' d' e'
              split at e'
              · rename_i hw
                cases e'
                refine .inr ⟨a, vs, rfl, SqT.of h4, by rw [← h5.length]; exact hw, fun p hp => ?_⟩
                obtain ⟨F4, p4⟩ := Post.made (K := X.K) (d := .tup (cutG xs l hh')) (o := .tup (cutV vs l hh')) st hp fun F2 up e => by rw [Rep]; exact ⟨p, _, rfl, e, (h5.cut l hh').mono up⟩
                exact m F4 _ _ p4
              · cases e'
            · rename_i e'; split at e' <;> cases e'
            · exact m.elim
          | _ => exact m.elim
noncomputable def mulS : G2
  | .str x, .int n => if 0 ≤ n ∧ n ≤ 1000 ∧ x.length ≤ 1000 then some (.fz, .str (Txt.mul x n)) else none
  | _, _ => none
noncomputable def rMulS : R2 := fun x y H Q => ∃ z n, x = .str z ∧ y = .int n ∧ 0 ≤ n ∧ n ≤ 1000 ∧ z.length ≤ 1000 ∧ Q (.str (Txt.mul z n)) H
theorem mulOk_small {x : Str} {n : Int} (h0 : 0 ≤ n) (h1 : n ≤ 1000) (hx : x.length ≤ 1000) : MulOk x n := by
  refine ⟨?_, fun hn _ => ?_, fun hn _ => ?_⟩
  · simp; omega
  · have h2 : (x.length : Int) ≤ 1000 := by omega
    have h3 : (2 ^ 63 - 1 : Int) / n ≥ 1000 := by
      refine Int.le_ediv_of_mul_le (by omega) ?_
      have : (1000 : Int) * n ≤ 1000 * 1000 := Int.mul_le_mul_of_nonneg_left h1 (by decide)
      omega
    omega
  · have h2 : x.length * n.toNat ≤ 1000 * 1000 := Nat.mul_le_mul hx (by omega)
    simp only [Builtin.Str.tooLong]
    have := sizeLine_ge
    simp
    omega
theorem op_mulS : OpR X (binaryOp .Mult) rMulS := by
  intro pins s σ H x y v u Q I rx ry h
  obtain ⟨z, n, rfl, rfl, h0, h1, hz, q⟩ := h
  obtain ⟨t, rfl⟩ := rx
  obtain ⟨t', rfl⟩ := ry
  exact SB.mul (mulOk_small h0 h1 hz) fun t'' k => ⟨.str (Txt.mul z n), H, I.tok k, ⟨t'', rfl⟩, q⟩
theorem ok_mulS : OkOp K rMulS mulS := by
  intro F H dx dy x y k d Q s rx ry e q
  unfold mulS at e
  split at e <;> first | (cases e; done) | skip
  rename_i z n
  split at e
  · rename_i hc
    cases e
    exact ⟨z, n, rx.str, ry.int, hc.1, hc.2.1, hc.2.2, q F _ H (.pure (.refl s) (by rw [Rep]))⟩
  · cases e
noncomputable def mulD : G2 := fun a b => (mulL a b).or (mulS a b)
theorem v_mul {a b : Expr} {f1 f2 : Ev → R} {pos : Pos} (ha : VE X F0 H0 Ψ a f1) (hb : VE X F0 H0 Ψ b f2) : VE X F0 H0 Ψ (.BinOp a .Mult b pos) (eOp mulD f1 f2) := v_bin (OpR.or' op_mul2 op_mulS) (ok_mulL.or ok_mulS) ha hb
noncomputable def lenD : GN := lenL
theorem v_len {e : Expr} {fs : Ev → RA} {p pos : Pos} (hm : X.mg "len" = none) (ha : VA X F0 H0 Ψ [e] fs) (hgl : Gl X "len" := by rfl) (he : starEach [e] X.env = (false, eval e X.env) :: starEach [] X.env := by rfl) : VE X F0 H0 Ψ (.Call (.Name "len" p) [e] [] pos) (eCall lenD fs) := v_lenL hm ha hgl he
end
end L3
set_option Elab.async false
set_option linter.all false
set_option maxRecDepth 100000
namespace L2
open PySem PySem.Spec PyProof.Rows
section
variable {X : Cx} {pins : List (Addr × Obj)} {σ : St} {H : Hp} {s : Shared} {h' : Heap}
end
section
variable {X : Cx}
end
end L2
namespace L3
open PySem L2
section
variable {X : Cx} {F0 H0 : Hp} {Ψ : Psi}
end
end L3
set_option Elab.async false
set_option linter.all false
set_option maxRecDepth 100000
namespace ST
open PySem PySem.SetTable
noncomputable def lcg (x : Nat) : Nat := 5 * x + 1
noncomputable def it (f : Nat → Nat) : Nat → Nat → Nat
  | 0, x => x
  | n + 1, x => it f n (f x)
theorem it_add (f : Nat → Nat) : ∀ a b x, it f (a + b) x = it f b (it f a x)
  | 0, b, x => by rw [Nat.zero_add]; rfl
  | a + 1, b, x => by rw [show a + 1 + b = (a + b) + 1 by omega]; exact it_add f a b (f x)
theorem lcg_pow : ∀ k, ∃ a b : Nat, ∀ z, it lcg (2 ^ k) z = (1 + 4 * 2 ^ k * a) * z + 2 ^ k * (1 + 2 * b)
  | 0 => ⟨1, 0, fun z => by show 5 * z + 1 = _; omega⟩
  | k + 1 => by
    obtain ⟨a, b, h⟩ := lcg_pow k
    refine ⟨a + 2 * 2 ^ k * a * a, b + 2 ^ k * a + 2 * b * 2 ^ k * a, fun z => ?_⟩
    rw [show (2 : Nat) ^ (k + 1) = 2 ^ k + 2 ^ k by omega, it_add, h, h]
    generalize 2 ^ k = c
    grind
theorem lcg_all : ∀ k x y, ∃ r, r < 2 ^ k ∧ it lcg r x % 2 ^ k = y % 2 ^ k
  | 0, x, y => ⟨0, by simp, by simp [Nat.mod_one]⟩
  | k + 1, x, y => by
    obtain ⟨r, hr, e⟩ := lcg_all k x y
    obtain ⟨a, b, h⟩ := lcg_pow k
    by_cases e2 : it lcg r x % 2 ^ (k + 1) = y % 2 ^ (k + 1)
    · exact ⟨r, by omega, e2⟩
    · refine ⟨r + 2 ^ k, by omega, ?_⟩
      rw [it_add, h]
      generalize it lcg r x = z at *
      rw [show (2 : Nat) ^ (k + 1) = 2 * 2 ^ k by omega] at *
      have hc : 0 < 2 ^ k := Nat.pow_pos (by decide)
      generalize 2 ^ k = c at *
      have h1 : ((1 + 4 * c * a) * z + c * (1 + 2 * b)) % (2 * c) = (z + c) % (2 * c) := by
        rw [show (1 + 4 * c * a) * z + c * (1 + 2 * b) = (z + c) + 2 * c * (2 * a * z + b) by grind, Nat.add_mul_mod_self_left]
      rw [h1]
      have hz := Nat.div_add_mod z (2 * c)
      have hy := Nat.div_add_mod y (2 * c)
      have e3 : z % (2 * c) % c = y % (2 * c) % c := by rw [Nat.mod_mod_of_dvd _ ⟨2, by omega⟩, Nat.mod_mod_of_dvd _ ⟨2, by omega⟩]; exact e
      have l1 := Nat.mod_lt z (show 0 < 2 * c by omega)
      have l2 := Nat.mod_lt y (show 0 < 2 * c by omega)
      rw [Nat.add_mod, show c % (2 * c) = c from Nat.mod_eq_of_lt (by omega)]
      generalize z % (2 * c) = u at *
      generalize y % (2 * c) = v at *
      have key : ∀ w, w < 2 * c → w % c = if w < c then w else w - c := fun w hw => by
        split
        · exact Nat.mod_eq_of_lt (by assumption)
        · rw [Nat.mod_eq_sub_mod (by omega), Nat.mod_eq_of_lt (by omega)]
      rw [key u l1, key v l2] at e3
      by_cases hu : u < c
      · rw [Nat.mod_eq_of_lt (by omega)]
        rw [if_pos hu] at e3
        split at e3 <;> omega
      · rw [Nat.mod_eq_sub_mod (by omega), Nat.mod_eq_of_lt (by omega)]
        rw [if_neg hu] at e3
        split at e3 <;> omega
noncomputable def adv (m : Nat) (p : Probe) : Probe :=
  if p.more > 0 then { p with j := p.j + 1, more := p.more - 1 } else
  { p with j := (leap m p.i p.perturb).1, more := runEnd m (leap m p.i p.perturb).1 - (leap m p.i p.perturb).1, i := (leap m p.i p.perturb).1, perturb := (leap m p.i p.perturb).2 }
noncomputable def st0 (m : Nat) (h : Int) : Probe := { j := bits h % (m + 1), more := runEnd m (bits h % (m + 1)) - bits h % (m + 1), i := bits h % (m + 1), perturb := bits h, dummy := none }
noncomputable def st (m : Nat) (h : Int) : Nat → Probe
  | 0 => st0 m h
  | n + 1 => adv m (st m h n)
noncomputable def pos (m : Nat) (h : Int) (n : Nat) : Nat := (st m h n).j
theorem st_dummy (m : Nat) (h : Int) : ∀ n, (st m h n).dummy = none
  | 0 => rfl
  | n + 1 => by unfold st adv; split <;> exact st_dummy m h n
noncomputable def hd (m : Nat) (h : Int) : Nat → Nat × Nat
  | 0 => (bits h % (m + 1), bits h)
  | n + 1 => leap m (hd m h n).1 (hd m h n).2
noncomputable def head (m : Nat) (h : Int) (k : Nat) : Probe := { j := (hd m h k).1, more := runEnd m (hd m h k).1 - (hd m h k).1, i := (hd m h k).1, perturb := (hd m h k).2, dummy := none }
theorem run_in (m : Nat) (h : Int) (k : Nat) {s : Nat} (e : st m h s = head m h k) : ∀ q, q ≤ (head m h k).more → st m h (s + q) = { head m h k with j := (head m h k).j + q, more := (head m h k).more - q }
  | 0, _ => by rw [Nat.add_zero, e]; rfl
  | q + 1, hq => by
    show adv m (st m h (s + q)) = _
    rw [run_in m h k e q (by omega)]
    unfold adv
    rw [if_pos (show (head m h k).more - q > 0 by omega)]
    simp only [Probe.mk.injEq, true_and, and_true]
    omega
theorem more_le (m i : Nat) : runEnd m i - i ≤ 9 := by unfold runEnd; split <;> omega
theorem at_head (m : Nat) (h : Int) : ∀ k, ∃ s, s ≤ 10 * k ∧ st m h s = head m h k
  | 0 => ⟨0, by omega, rfl⟩
  | k + 1 => by
    obtain ⟨s, hs, e⟩ := at_head m h k
    have hm := more_le m (hd m h k).1
    refine ⟨s + (head m h k).more + 1, by show s + (runEnd m (hd m h k).1 - (hd m h k).1) + 1 ≤ _; omega, ?_⟩
    show adv m (st m h (s + (head m h k).more)) = _
    rw [run_in m h k e _ (Nat.le_refl _)]
    unfold adv
    rw [if_neg (by simp)]
    rfl
theorem bits_lt (h : Int) : bits h < 2 ^ 64 := by
  unfold bits
  have h1 := Int.emod_nonneg h (b := 2 ^ 64) (by decide)
  have h2 := Int.emod_lt_of_pos h (b := 2 ^ 64) (by decide)
  omega
theorem hd_pert (m : Nat) (h : Int) : ∀ k, (hd m h k).2 = bits h / 32 ^ k
  | 0 => by simp [hd]
  | k + 1 => by
    show (hd m h k).2 / 32 = _
    rw [hd_pert m h k, Nat.div_div_eq_div_mul, Nat.pow_succ]
theorem hd_late (m : Nat) (h : Int) : ∀ r, (hd m h (13 + r)).1 = it lcg r (hd m h 13).1 % (m + 1) ∨ r = 0
  | 0 => .inr rfl
  | r + 1 => by
    left
    show (hd m h (13 + r + 1)).1 = _
    have hp : (hd m h (13 + r)).2 / 32 = 0 := by
      rw [hd_pert, Nat.div_div_eq_div_mul]
      refine Nat.div_eq_of_lt (Nat.lt_of_lt_of_le (bits_lt h) ?_)
      rw [← Nat.pow_succ, show (32 : Nat) = 2 ^ 5 by decide, ← Nat.pow_mul]
      exact Nat.pow_le_pow_right (by decide) (by omega)
    show ((hd m h (13 + r)).1 * 5 + 1 + (hd m h (13 + r)).2 / 32) % (m + 1) = _
    rw [hp, Nat.add_zero, it_add lcg r 1]
    show _ = (5 * it lcg r (hd m h 13).1 + 1) % (m + 1)
    rcases hd_late m h r with e | e
    · rw [e, Nat.add_mod, Nat.mul_mod, Nat.mod_mod, ← Nat.mul_mod, ← Nat.add_mod, Nat.mul_comm]
    · subst e; rw [Nat.mul_comm]; rfl
theorem visits {m k : Nat} (hm : m + 1 = 2 ^ k) (h : Int) {e : Nat} (he : e ≤ m) : ∃ n, n < 10 * turns m ∧ pos m h n = e := by
  obtain ⟨r, hr, er⟩ := lcg_all k (hd m h 13).1 e
  have hh : ∃ q, q ≤ 13 + (m + 1) ∧ (hd m h q).1 = e := by
    by_cases h0 : r = 0
    · subst h0
      refine ⟨13, by omega, ?_⟩
      have l : (hd m h 13).1 < m + 1 := Nat.mod_lt _ (by omega)
      rw [← hm] at er
      rw [show it lcg 0 (hd m h 13).1 = (hd m h 13).1 from rfl, Nat.mod_eq_of_lt l, Nat.mod_eq_of_lt (by omega)] at er
      exact er
    · refine ⟨13 + r, by omega, ?_⟩
      rcases hd_late m h r with e2 | e2
      · rw [e2, hm, er, Nat.mod_eq_of_lt (by omega)]
      · exact absurd e2 h0
  obtain ⟨q, hq, eq⟩ := hh
  obtain ⟨s, hs, es⟩ := at_head m h q
  refine ⟨s, by unfold turns; omega, ?_⟩
  unfold pos
  rw [es]
  exact eq
noncomputable abbrev El := Nat × (Int × Value)
structure Tab (t : SetTable) (es : Array (Int × Value)) (L : List El) : Prop where
  pl : t.place.toList = L.map (·.1)
  es : es.toList = L.map (·.2)
  srt : L.Pairwise fun a b => a.1 < b.1
  le : ∀ e ∈ L, e.1 ≤ t.mask
  du : t.dummies = #[]
  len : L.length ≤ t.mask
  two : ∃ k, 3 ≤ k ∧ t.mask + 1 = 2 ^ k
  path : ∀ e ∈ L, ∃ n, pos t.mask e.2.1 n = e.1 ∧ ∀ i < n, pos t.mask e.2.1 i ∈ L.map (·.1)
section
variable {t : SetTable} {es : Array (Int × Value)} {L : List El}
theorem Tab.fits (T : Tab t es L) : t.fits es.size = true := by
  have h1 : t.place.size = L.length := by rw [← Array.length_toList, T.pl, List.length_map]
  have h2 : es.size = L.length := by rw [← Array.length_toList, T.es, List.length_map]
  simp only [SetTable.fits, SetTable.fill, T.du, Bool.and_eq_true, beq_iff_eq, decide_eq_true_eq]
  exact ⟨by omega, by have := T.len; simp; omega⟩
theorem Tab.size (T : Tab t es L) : es.size = L.length := by rw [← Array.length_toList, T.es, List.length_map]
noncomputable def cnt (j : Nat) : List Nat → Nat
  | [] => 0
  | x :: l => if x < j then cnt j l + 1 else 0
theorem cnt_le (j : Nat) : ∀ l, cnt j l ≤ l.length
  | [] => by simp [cnt]
  | x :: l => by unfold cnt; split <;> simp; exact cnt_le j l
theorem cnt_lt (j : Nat) : ∀ {l : List Nat} {i : Nat} {x : Nat}, i < cnt j l → l[i]? = some x → x < j
  | [], i, x, h, e => by simp at e
  | y :: l, 0, x, h, e => by
    simp at e; subst e
    unfold cnt at h; split at h
    · assumption
    · omega
  | y :: l, i + 1, x, h, e => by
    unfold cnt at h; split at h
    · exact cnt_lt j (l := l) (i := i) (by omega) (by simpa using e)
    · omega
theorem cnt_ge (j : Nat) : ∀ {l : List Nat} {i : Nat} {x : Nat}, l.Pairwise (· < ·) → cnt j l ≤ i → l[i]? = some x → j ≤ x
  | [], i, x, _, h, e => by simp at e
  | y :: l, 0, x, p, h, e => by
    simp at e; subst e
    unfold cnt at h; split at h <;> omega
  | y :: l, i + 1, x, p, h, e => by
    rw [List.pairwise_cons] at p
    unfold cnt at h
    split at h
    · exact cnt_ge j (l := l) (i := i) p.2 (by omega) (by simpa using e)
    · have := p.1 x (List.mem_of_getElem? (by simpa using e)); omega
theorem below_go {xs : Array Nat} {j : Nat} (p : xs.toList.Pairwise (· < ·)) : ∀ fuel lo hi, hi - lo ≤ fuel → lo ≤ cnt j xs.toList → cnt j xs.toList ≤ hi → hi ≤ xs.size → below.go xs j fuel lo hi = cnt j xs.toList
  | 0, lo, hi, hf, h1, h2, _ => by unfold below.go; omega
  | fuel + 1, lo, hi, hf, h1, h2, h3 => by
    unfold below.go
    by_cases hlt : lo < hi
    · simp only [hlt, if_true]
      have hmid : (lo + hi) / 2 < xs.size := by omega
      have ex : xs.toList[(lo + hi) / 2]? = some xs[(lo + hi) / 2] := by rw [Array.getElem?_toList, Array.getElem?_eq_getElem hmid]
      have eg : xs.getD ((lo + hi) / 2) j = xs[(lo + hi) / 2] := by simp [Array.getD, hmid]
      rw [eg]
      split
      · rename_i hx
        refine below_go p fuel _ _ (by omega) ?_ h2 h3
        apply Classical.byContradiction
        intro hc
        have := cnt_ge j p (by omega) ex
        omega
      · rename_i hx
        refine below_go p fuel _ _ (by omega) h1 ?_ (by omega)
        apply Classical.byContradiction
        intro hc
        have := cnt_lt j (by omega) ex
        omega
    · simp only [hlt, if_false]; omega
theorem below_eq {xs : Array Nat} (p : xs.toList.Pairwise (· < ·)) (j : Nat) : below xs j = cnt j xs.toList := by
  unfold below
  refine below_go p _ _ _ (by omega) (by omega) ?_ (Nat.le_refl _)
  have := cnt_le j xs.toList; rw [Array.length_toList] at this; exact this
theorem Tab.pw (T : Tab t es L) : t.place.toList.Pairwise (· < ·) := by rw [T.pl, List.pairwise_map]; exact T.srt
theorem cnt_at {l : List Nat} (p : l.Pairwise (· < ·)) {i j : Nat} (e : l[i]? = some j) : cnt j l = i := by
  have h1 : ¬ i < cnt j l := fun h => by have := cnt_lt j h e; omega
  have h2 : ¬ cnt j l < i := fun h => by
    have hl : cnt j l < l.length := Nat.lt_trans h (List.getElem?_eq_some_iff.mp e).1
    have e2 := List.getElem?_eq_getElem hl
    have := cnt_ge j p (Nat.le_refl _) e2
    have : l[cnt j l] < j := by
      have := List.pairwise_iff_getElem.1 p _ _ hl (List.getElem?_eq_some_iff.mp e).1 h
      rw [(List.getElem?_eq_some_iff.mp e).2] at this; exact this
    omega
  omega
theorem Tab.slot_live (T : Tab t es L) {i : Nat} {e : El} (h : L[i]? = some e) : t.slot e.1 = .live i := by
  have hp : t.place.toList[i]? = some e.1 := by rw [T.pl, List.getElem?_map, h]; rfl
  unfold SetTable.slot
  rw [below_eq T.pw, cnt_at T.pw hp]
  have : t.place[i]? = some e.1 := by rw [← Array.getElem?_toList]; exact hp
  simp [this]
theorem Tab.slot_empty (T : Tab t es L) {j : Nat} (h : j ∉ L.map (·.1)) : t.slot j = .empty := by
  unfold SetTable.slot
  have h1 : ¬ (t.place[below t.place j]? == some j) = true := fun z => by
    rw [beq_iff_eq, ← Array.getElem?_toList] at z
    have := List.mem_of_getElem? z
    rw [T.pl] at this
    exact h this
  have h2 : has t.dummies j = false := by rw [T.du]; simp [has]
  simp only [h1, h2]
  rfl
theorem Tab.free (T : Tab t es L) (h : Int) : ∃ n, n < 10 * turns t.mask ∧ pos t.mask h n ∉ L.map (·.1) ∧ ∀ i < n, pos t.mask h i ∈ L.map (·.1) := by
  obtain ⟨k, _, hk⟩ := T.two
  have hex : ∃ e, e ≤ t.mask ∧ e ∉ L.map (·.1) := by
    apply Classical.byContradiction
    intro hc
    have all : ∀ e, e ≤ t.mask → e ∈ L.map (·.1) := fun e he => Classical.byContradiction fun z => hc ⟨e, he, z⟩
    have hlen : ∀ (n : Nat) (l : List Nat), (∀ e, e < n → e ∈ l) → n ≤ l.length := fun n => by
      induction n with
      | zero => intro l _; omega
      | succ n ih =>
        intro l hl
        have hm := hl n (by omega)
        have := ih (l.erase n) fun e he => (List.mem_erase_of_ne (by omega)).2 (hl e (by omega))
        rw [List.length_erase_of_mem hm] at this
        have := List.length_pos_of_mem hm
        omega
    have := hlen (t.mask + 1) (L.map (·.1)) fun e he => all e (by omega)
    have h2 := T.len
    simp at this; omega
  obtain ⟨e, he, hne⟩ := hex
  obtain ⟨n, hn, en⟩ := visits hk h he
  have hn2 : pos t.mask h n ∉ L.map (·.1) := by rw [en]; exact hne
  clear en
  induction n using Nat.strongRecOn with
  | ind n ih =>
    by_cases hall : ∀ i < n, pos t.mask h i ∈ L.map (·.1)
    · exact ⟨n, hn, hn2, hall⟩
    · have : ∃ i, i < n ∧ pos t.mask h i ∉ L.map (·.1) := Classical.byContradiction fun z => hall fun i hi => Classical.byContradiction fun y => z ⟨i, hi, y⟩
      obtain ⟨i, hi, y⟩ := this
      exact ih i hi (by omega) y
theorem Tab.probe (T : Tab t es L) {hashAt : Nat → Int} (hh : ∀ i e, L[i]? = some e → hashAt i = e.2.1) {h : Int} {n : Nat} (hn : pos t.mask h n ∉ L.map (·.1)) (hall : ∀ i < n, pos t.mask h i ∈ L.map (·.1)) :
    ∀ fuel i, i ≤ n → n - i < fuel → (∃ q idx e, i ≤ q ∧ q < n ∧ L[idx]? = some e ∧ e.1 = pos t.mask h q ∧ e.2.1 = h ∧ (∀ r, i ≤ r → r < q → ∀ e' ∈ L, e'.1 = pos t.mask h r → e'.2.1 ≠ h) ∧ SetTable.probe.go t hashAt h fuel (st t.mask h i) = some (.candidate e.1 idx (st t.mask h (q + 1)))) ∨
      ((∀ r, i ≤ r → r < n → ∀ e' ∈ L, e'.1 = pos t.mask h r → e'.2.1 ≠ h) ∧ SetTable.probe.go t hashAt h fuel (st t.mask h i) = some (.empty (pos t.mask h n) none))
  | 0, i, _, hf => by omega
  | fuel + 1, i, hi, hf => by
    unfold SetTable.probe.go
    by_cases hin : i = n
    · subst hin
      right
      refine ⟨fun r h1 h2 => by omega, ?_⟩
      rw [show (st t.mask h i).j = pos t.mask h i from rfl, T.slot_empty hn, st_dummy]
    · have hm := hall i (by omega)
      obtain ⟨e, he, ee⟩ := List.mem_map.1 hm
      obtain ⟨idx, hidx⟩ := List.getElem?_of_mem he
      rw [show (st t.mask h i).j = pos t.mask h i from rfl, ← ee, T.slot_live hidx]
      dsimp only
      rw [hh idx e hidx]
      by_cases hq : e.2.1 = h
      · left
        refine ⟨i, idx, e, Nat.le_refl _, by omega, hidx, ee, hq, fun r h1 h2 => by omega, ?_⟩
        rw [if_pos (by simp [hq])]
        rfl
      · rw [if_neg (by simp [hq])]
        have hone : ∀ e' ∈ L, e'.1 = pos t.mask h i → e'.2.1 ≠ h := fun e' he' e1 => by
          have : e' = e := by
            obtain ⟨idx', hidx'⟩ := List.getElem?_of_mem he'
            have a1 := T.slot_live hidx'
            have a2 := T.slot_live hidx
            rw [e1, ← ee, a2] at a1
            cases a1
            rw [hidx] at hidx'; cases hidx'; rfl
          rw [this]; exact hq
        rcases Tab.probe T hh hn hall fuel (i + 1) (by omega) (by omega) with ⟨q, idx', e', h1, h2, h3, h4, h5, h6, h7⟩ | ⟨h1, h2⟩
        · left
          refine ⟨q, idx', e', by omega, h2, h3, h4, h5, fun r r1 r2 => ?_, h7⟩
          by_cases hr : r = i
          · subst hr; exact hone
          · exact h6 r (by omega) r2
        · right
          refine ⟨fun r r1 r2 => ?_, h2⟩
          by_cases hr : r = i
          · subst hr; exact hone
          · exact h1 r (by omega) r2
end
end ST
set_option Elab.async false
set_option linter.all false
set_option maxRecDepth 100000
namespace ST
open PySem PySem.SetTable
theorem runEnd_le {m i : Nat} (h : i ≤ m) : runEnd m i ≤ m ∧ i ≤ runEnd m i := by unfold runEnd; split <;> omega
theorem hd_le (m : Nat) (h : Int) : ∀ k, (hd m h k).1 ≤ m
  | 0 => by have := Nat.mod_lt (bits h) (show 0 < m + 1 by omega); show bits h % (m + 1) ≤ m; omega
  | k + 1 => by have := Nat.mod_lt ((hd m h k).1 * 5 + 1 + (hd m h k).2 / 32) (show 0 < m + 1 by omega); show ((hd m h k).1 * 5 + 1 + (hd m h k).2 / 32) % (m + 1) ≤ m; omega
theorem st_le (m : Nat) (h : Int) : ∀ n, (st m h n).j + (st m h n).more ≤ m
  | 0 => by
    have h1 := hd_le m h 0
    have h2 := runEnd_le h1
    show (hd m h 0).1 + (runEnd m (hd m h 0).1 - (hd m h 0).1) ≤ m
    omega
  | n + 1 => by
    have ih := st_le m h n
    show (adv m (st m h n)).j + (adv m (st m h n)).more ≤ m
    unfold adv
    split
    · show (st m h n).j + 1 + ((st m h n).more - 1) ≤ m; omega
    · have h1 : (leap m (st m h n).i (st m h n).perturb).1 ≤ m := by
        have := Nat.mod_lt ((st m h n).i * 5 + 1 + (st m h n).perturb / 32) (show 0 < m + 1 by omega)
        show ((st m h n).i * 5 + 1 + (st m h n).perturb / 32) % (m + 1) ≤ m; omega
      have h2 := runEnd_le h1
      dsimp only
      omega
theorem pos_le (m : Nat) (h : Int) (n : Nat) : pos m h n ≤ m := by have := st_le m h n; unfold pos; omega
section
variable {t : SetTable} {es : Array (Int × Value)} {L : List El}
noncomputable def ins (L : List El) (e : El) : List El := L.take (cnt e.1 (L.map (·.1))) ++ e :: L.drop (cnt e.1 (L.map (·.1)))
theorem mem_ins {e a : El} : a ∈ ins L e ↔ a = e ∨ a ∈ L := by
  unfold ins
  rw [List.mem_append, List.mem_cons]
  conv => rhs; rw [← List.take_append_drop (cnt e.1 (L.map (·.1))) L, List.mem_append]
  constructor
  · rintro (h | h | h); exact .inr (.inl h); exact .inl h; exact .inr (.inr h)
  · rintro (h | h | h); exact .inr (.inl h); exact .inl h; exact .inr (.inr h)
theorem ins_len {e : El} : (ins L e).length = L.length + 1 := by
  unfold ins
  have := cnt_le e.1 (L.map (·.1))
  simp at this ⊢
  omega
theorem Tab.put (T : Tab t es L) {h : Int} {x : Value} {n : Nat} (hn : pos t.mask h n ∉ L.map (·.1)) (hall : ∀ i < n, pos t.mask h i ∈ L.map (·.1)) (hlen : L.length + 1 ≤ t.mask) (pn : Bool) :
    Tab { (t.put (pos t.mask h n)).1 with plain := pn } (insertAt es (t.put (pos t.mask h n)).2 (h, x)) (ins L (pos t.mask h n, (h, x))) := by
  have hp : (t.put (pos t.mask h n)).2 = cnt (pos t.mask h n) (L.map (·.1)) := by
    show below t.place _ = _
    rw [below_eq T.pw, T.pl]
  have sub : ∀ j, j ∈ L.map (·.1) → j ∈ (ins L (pos t.mask h n, (h, x))).map (·.1) := fun j hj => by
    obtain ⟨a, ha, rfl⟩ := List.mem_map.1 hj
    exact List.mem_map.2 ⟨a, mem_ins.2 (.inr ha), rfl⟩
  refine ⟨?_, ?_, ?_, fun e he => ?_, ?_, ?_, T.two, fun e he => ?_⟩
  · show (insertAt t.place (below t.place (pos t.mask h n)) (pos t.mask h n)).toList = _
    rw [SetTable.toList_insertAt, below_eq T.pw, T.pl]
    unfold ins
    simp [List.map_take, List.map_drop]
  · rw [hp, SetTable.toList_insertAt, T.es]
    unfold ins
    simp [List.map_take, List.map_drop]
  · unfold ins
    have srt := T.srt
    rw [← List.take_append_drop (cnt (pos t.mask h n) (L.map (·.1))) L, List.pairwise_append] at srt
    rw [List.pairwise_append, List.pairwise_cons]
    have lt : ∀ a ∈ L.take (cnt (pos t.mask h n) (L.map (·.1))), a.1 < pos t.mask h n := fun a ha => by
      obtain ⟨i, hi⟩ := List.getElem?_of_mem ha
      have hi2 : i < cnt (pos t.mask h n) (L.map (·.1)) := by
        have := (List.getElem?_eq_some_iff.mp hi).1; simp at this; omega
      rw [List.getElem?_take_of_lt hi2] at hi
      exact cnt_lt _ hi2 (by rw [List.getElem?_map, hi]; rfl)
    have gt : ∀ a ∈ L.drop (cnt (pos t.mask h n) (L.map (·.1))), pos t.mask h n < a.1 := fun a ha => by
      obtain ⟨i, hi⟩ := List.getElem?_of_mem ha
      rw [List.getElem?_drop] at hi
      have h1 := cnt_ge (pos t.mask h n) (l := L.map (·.1)) (i := cnt (pos t.mask h n) (L.map (·.1)) + i) (x := a.1) (by rw [← T.pl]; exact T.pw) (by omega) (by rw [List.getElem?_map, hi]; rfl)
      have h2 : a.1 ≠ pos t.mask h n := fun z => hn (by rw [← z]; exact List.mem_map.2 ⟨a, List.mem_of_getElem? hi, rfl⟩)
      omega
    refine ⟨srt.1, ⟨gt, srt.2.1⟩, fun a ha b hb => ?_⟩
    rcases List.mem_cons.1 hb with rfl | hb
    · exact lt a ha
    · exact srt.2.2 a ha b hb
  · rcases mem_ins.1 he with rfl | he
    · exact pos_le _ _ _
    · exact T.le e he
  · show (if has t.dummies _ = true then _ else t.dummies) = #[]
    rw [T.du]; simp [has]
  · rw [ins_len]; exact hlen
  · rcases mem_ins.1 he with rfl | he
    · exact ⟨n, rfl, fun i hi => sub _ (hall i hi)⟩
    · obtain ⟨q, h1, h2⟩ := T.path e he
      exact ⟨q, h1, fun i hi => sub _ (h2 i hi)⟩
end
noncomputable def sIdx (m : Nat) (h : Int) : Nat → Nat
  | 0 => 0
  | k + 1 => sIdx m h k + (head m h k).more + 1
theorem st_s (m : Nat) (h : Int) : ∀ k, st m h (sIdx m h k) = head m h k
  | 0 => rfl
  | k + 1 => by
    show adv m (st m h (sIdx m h k + (head m h k).more)) = _
    rw [run_in m h k (st_s m h k) _ (Nat.le_refl _)]
    unfold adv
    rw [if_neg (by simp)]
    rfl
theorem pos_run (m : Nat) (h : Int) (k q : Nat) (hq : q ≤ (head m h k).more) : pos m h (sIdx m h k + q) = (hd m h k).1 + q := by
  unfold pos
  rw [run_in m h k (st_s m h k) q hq]
  rfl
theorem free_ok {m : Nat} {owner : Array (Option Nat)} (hs : owner.size = m + 1) (h : Int) : ∀ fuel k, (∀ i < sIdx m h k, (owner.getD (pos m h i) (some 0)).isNone = false) → (∃ q, k ≤ q ∧ q < k + fuel ∧ (owner.getD (hd m h q).1 (some 0)).isNone = true) →
    ∃ n, layClean.free m owner fuel (hd m h k).1 (hd m h k).2 = some (pos m h n) ∧ (owner.getD (pos m h n) (some 0)).isNone = true ∧ ∀ i < n, (owner.getD (pos m h i) (some 0)).isNone = false
  | 0, k, _, ⟨q, h1, h2, _⟩ => by omega
  | fuel + 1, k, hb, ⟨q, h1, h2, h3⟩ => by
    unfold layClean.free
    have hmore : (head m h k).more = runEnd m (hd m h k).1 - (hd m h k).1 := rfl
    have hre := runEnd_le (hd_le m h k)
    cases e : (List.range (runEnd m (hd m h k).1 + 1 - (hd m h k).1)).find? fun x => (owner.getD ((hd m h k).1 + x) (some 0)).isNone with
    | some x =>
      dsimp only
      obtain ⟨p1, i0, hi0, hei, hbef⟩ := List.find?_eq_some_iff_getElem.1 e
      simp at hi0 hei
      subst hei
      have hx : i0 ≤ (head m h k).more := by rw [hmore]; omega
      refine ⟨sIdx m h k + i0, by rw [pos_run m h k i0 hx], by rw [pos_run m h k i0 hx]; exact p1, fun i hi => ?_⟩
      by_cases h4 : i < sIdx m h k
      · exact hb i h4
      · obtain ⟨r, rfl⟩ := Nat.exists_eq_add_of_le (Nat.le_of_not_lt h4)
        rw [pos_run m h k r (by omega)]
        have := hbef r (by omega)
        simpa using this
    | none =>
      dsimp only
      have hnone := List.find?_eq_none.1 e
      have hb' : ∀ i < sIdx m h (k + 1), (owner.getD (pos m h i) (some 0)).isNone = false := fun i hi => by
        by_cases h4 : i < sIdx m h k
        · exact hb i h4
        · obtain ⟨r, rfl⟩ := Nat.exists_eq_add_of_le (Nat.le_of_not_lt h4)
          have hr : r ≤ (head m h k).more := by rw [show sIdx m h (k + 1) = sIdx m h k + (head m h k).more + 1 from rfl] at hi; omega
          rw [pos_run m h k r hr]
          exact Bool.eq_false_iff.2 (hnone r (by simp; rw [hmore] at hr; omega))
      have hqk : q ≠ k := fun z => by
        subst z
        have t : ¬ (owner.getD ((hd m h q).1 + 0) (some 0)).isNone = true := hnone 0 (by simp; omega)
        exact t (by rw [Nat.add_zero]; exact h3)
      exact free_ok hs h fuel (k + 1) hb' ⟨q, by omega, by omega, h3⟩
theorem visitsH {m k : Nat} (hm : m + 1 = 2 ^ k) (h : Int) {e : Nat} (he : e ≤ m) : ∃ q, q < turns m ∧ (hd m h q).1 = e := by
  obtain ⟨r, hr, er⟩ := lcg_all k (hd m h 13).1 e
  by_cases h0 : r = 0
  · subst h0
    refine ⟨13, by unfold turns; omega, ?_⟩
    have l := hd_le m h 13
    rw [← hm] at er
    rw [show it lcg 0 (hd m h 13).1 = (hd m h 13).1 from rfl, Nat.mod_eq_of_lt (by omega), Nat.mod_eq_of_lt (by omega)] at er
    exact er
  · refine ⟨13 + r, by unfold turns; omega, ?_⟩
    rcases hd_late m h r with e2 | e2
    · rw [e2, hm, er, Nat.mod_eq_of_lt (by omega)]
    · exact absurd e2 h0
structure Lay (m : Nat) (hs : List Int) (owner : Array (Option Nat)) (P : List Nat) : Prop where
  size : owner.size = m + 1
  nd : P.Nodup
  le : ∀ j ∈ P, j ≤ m
  own : ∀ j, j ≤ m → owner.getD j none = (P.idxOf? j)
  path : ∀ (i j : Nat), P[i]? = some j → ∃ (h : Int) (n : Nat), hs[i]? = some h ∧ pos m h n = j ∧ ∀ q < n, pos m h q ∈ P
theorem getD_isNone {owner : Array (Option Nat)} {j : Nat} (h : j < owner.size) : (owner.getD j (some 0)).isNone = (owner.getD j none).isNone := by
  simp [Array.getD, h]
theorem idxOf_none {P : List Nat} {j : Nat} : (P.idxOf? j).isNone = true ↔ j ∉ P := by
  rw [Option.isNone_iff_eq_none]
  unfold List.idxOf?
  rw [List.findIdx?_eq_none_iff]
  constructor
  · intro h z; have := h j z; simp at this
  · intro h x hx; simp; rintro rfl; exact h hx
theorem idxOf_app {P : List Nat} {j k : Nat} (h : k ∉ P) : (P ++ [k]).idxOf? j = if j = k then some P.length else P.idxOf? j := by
  unfold List.idxOf?
  rw [List.findIdx?_append]
  by_cases e : j = k
  · subst e
    have : P.findIdx? (· == j) = none := by
      rw [List.findIdx?_eq_none_iff]; intro x hx; simp; rintro rfl; exact h hx
    simp [this, List.findIdx?_cons]
  · have hk : ¬ k = j := fun z => e z.symm
    simp only [if_neg e, List.findIdx?_cons, List.findIdx?_nil]
    have : (k == j) = false := by simp [hk]
    rw [this]
    cases P.findIdx? (· == j) <;> simp
theorem Lay.step {m k : Nat} (hm : m + 1 = 2 ^ k) {hs : List Int} {owner : Array (Option Nat)} {P : List Nat} (Y : Lay m hs owner P) {h : Int} (hh : hs[P.length]? = some h) (hlen : P.length < m) :
    ∃ j, layClean.free m owner (turns m) (bits h % (m + 1)) (bits h) = some j ∧ Lay m hs (owner.setIfInBounds j (some P.length)) (P ++ [j]) := by
  have occ : ∀ j, j ≤ m → ((owner.getD j (some 0)).isNone = true ↔ j ∉ P) := fun j hj => by
    rw [getD_isNone (by rw [Y.size]; omega), Y.own j hj, idxOf_none]
  have hex : ∃ e, e ≤ m ∧ e ∉ P := by
    apply Classical.byContradiction
    intro hc
    have all : ∀ e, e < m + 1 → e ∈ P := fun e he => Classical.byContradiction fun z => hc ⟨e, by omega, z⟩
    have hl : ∀ (n : Nat) (l : List Nat), (∀ e, e < n → e ∈ l) → n ≤ l.length := fun n => by
      induction n with
      | zero => intro l _; omega
      | succ n ih =>
        intro l hl
        have hm := hl n (by omega)
        have := ih (l.erase n) fun e he => (List.mem_erase_of_ne (by omega)).2 (hl e (by omega))
        rw [List.length_erase_of_mem hm] at this
        have := List.length_pos_of_mem hm
        omega
    have := hl (m + 1) P all
    omega
  obtain ⟨e, he, hne⟩ := hex
  obtain ⟨q, hq, eq⟩ := visitsH hm h he
  obtain ⟨n, h1, h2, h3⟩ := free_ok Y.size h (turns m) 0 (by intro i hi; exact absurd hi (by show ¬ i < 0; omega)) ⟨q, by omega, by omega, by rw [eq]; exact (occ e he).2 hne⟩
  have hj := pos_le m h n
  have hnP : pos m h n ∉ P := (occ _ hj).1 h2
  refine ⟨pos m h n, h1, ⟨by simpa using Y.size, ?_, fun j hj' => ?_, fun j hj' => ?_, fun i j hij => ?_⟩⟩
  · rw [List.nodup_append]
    exact ⟨Y.nd, by simp, fun a ha b hb => by simp at hb; subst hb; rintro rfl; exact hnP ha⟩
  · rcases List.mem_append.1 hj' with z | z
    · exact Y.le j z
    · simp at z; subst z; exact hj
  · rw [idxOf_app hnP]
    by_cases e' : j = pos m h n
    · subst e'
      rw [if_pos rfl]
      simp [Array.getD, Y.size, show pos m h n < m + 1 by omega]
    · rw [if_neg e', ← Y.own j hj']
      simp [Array.getD, Y.size]
      have : j < m + 1 := by omega
      simp [this, Array.getElem_setIfInBounds, Y.size]
      intro z; exact absurd z.symm e'
  · by_cases hi : i < P.length
    · rw [List.getElem?_append_left hi] at hij
      obtain ⟨h', n', e1, e2, e3⟩ := Y.path i j hij
      exact ⟨h', n', e1, e2, fun q hq => List.mem_append_left _ (e3 q hq)⟩
    · have : i = P.length := by
        have := (List.getElem?_eq_some_iff.mp hij).1
        simp at this; omega
      subst this
      simp at hij
      subst hij
      refine ⟨h, n, hh, rfl, fun q hq => List.mem_append_left _ ?_⟩
      apply Classical.byContradiction
      intro z
      have h4 := (occ _ (pos_le m h q)).2 z
      rw [h3 q hq] at h4
      cases h4
theorem lay_fold {m k : Nat} (hm : m + 1 = 2 ^ k) {hs : List Int} (hlen : hs.length ≤ m) : ∀ (l : List Int) (owner : Array (Option Nat)) (P : List Nat), hs.drop P.length = l → Lay m hs owner P →
    ∃ owner' P', l.foldl (fun acc h => do
      let (owner, k) ← acc
      let j ← layClean.free m owner (turns m) (bits h % (m + 1)) (bits h)
      pure (owner.setIfInBounds j (some k), k + 1)) (some (owner, P.length)) = some (owner', hs.length) ∧ Lay m hs owner' P' ∧ P'.length = hs.length
  | [], owner, P, hd, Y => by
    have : hs.length ≤ P.length := by
      have := congrArg List.length hd; simp at this; omega
    have h2 : P.length ≤ hs.length := by
      apply Classical.byContradiction
      intro z
      have hlt : hs.length < P.length := by omega
      obtain ⟨h, n, e, _⟩ := Y.path hs.length P[hs.length] (List.getElem?_eq_getElem hlt)
      simp at e
    exact ⟨owner, P, by rw [show hs.length = P.length by omega]; rfl, Y, by omega⟩
  | h :: l, owner, P, hd, Y => by
    have hlt : P.length < hs.length := by
      have := congrArg List.length hd; simp at this; omega
    have hh : hs[P.length]? = some h := by
      have := congrArg (·[0]?) hd
      simpa using this
    obtain ⟨j, e, Y'⟩ := Y.step hm hh (by omega)
    rw [List.foldl_cons]
    simp only [Option.bind_eq_bind, Option.bind_some, e, Option.pure_def]
    have := lay_fold hm hlen l _ (P ++ [j]) (by simp; rw [← List.drop_drop, hd]; rfl) Y'
    simpa using this
theorem layClean_ok {m k : Nat} (hm : m + 1 = 2 ^ k) {hashes : Array Int} (hlen : hashes.size ≤ m) : ∃ owner P, layClean m hashes = some owner ∧ Lay m hashes.toList owner P ∧ P.length = hashes.size := by
  have Y0 : Lay m hashes.toList (Array.replicate (m + 1) none) [] := ⟨by simp, by simp, by simp, fun j hj => by simp [Array.getD, show j < m + 1 by omega, List.idxOf?], by simp⟩
  obtain ⟨owner, P, e, Y, hl⟩ := lay_fold hm (hs := hashes.toList) (by simpa using hlen) hashes.toList _ [] (by simp) Y0
  refine ⟨owner, P, ?_, Y, by simpa using hl⟩
  unfold layClean
  rw [← Array.foldl_toList]
  have e' : hashes.toList.foldl _ (some (Array.replicate (m + 1) none, 0)) = _ := e
  rw [e']; rfl
theorem relaid_ok {t : SetTable} {es : Array (Int × Value)} {wanted k : Nat} (hk : sizeAbove wanted = 2 ^ k) (h3 : 3 ≤ k) (hlen : es.size < sizeAbove wanted - 1) :
    ∃ t' order L, t.relaid (es.map (·.1)) wanted = some (t', order) ∧ (order.filterMap (es[·]?)).size = es.size ∧ Tab t' (order.filterMap (es[·]?)) L ∧ List.Perm (L.map (·.2)) es.toList ∧ t'.mask = sizeAbove wanted - 1 := by
  have hpos : 0 < 2 ^ k := Nat.pow_pos (by decide)
  have hm : sizeAbove wanted - 1 + 1 = 2 ^ k := by omega
  generalize hmm : sizeAbove wanted - 1 = m at *
  obtain ⟨owner, P, e, Y, hl⟩ := layClean_ok hm (hashes := es.map (·.1)) (by simp; omega)
  have hPl : P.length = es.size := by simpa using hl
  let live := (List.range (m + 1)).filterMap fun j => (owner.getD j none).map (j, ·)
  have live_mem : ∀ j i, (j, i) ∈ live ↔ P[i]? = some j := fun j i => by
    show (j, i) ∈ (List.range (m + 1)).filterMap _ ↔ _
    rw [List.mem_filterMap]
    constructor
    · rintro ⟨a, ha, e⟩
      simp at ha
      rw [Y.own a (by omega)] at e
      cases q : P.idxOf? a with
      | none => rw [q] at e; cases e
      | some i' =>
        rw [q] at e; cases e
        unfold List.idxOf? at q
        obtain ⟨h1, h2, _⟩ := List.findIdx?_eq_some_iff_getElem.1 q
        simp at h2
        rw [List.getElem?_eq_getElem h1, h2]
    · intro h
      have hj := Y.le j (List.mem_of_getElem? h)
      refine ⟨j, by simp; omega, ?_⟩
      rw [Y.own j hj]
      have hi := (List.getElem?_eq_some_iff.mp h)
      have : P.idxOf? j = some i := by
        unfold List.idxOf?
        rw [List.findIdx?_eq_some_iff_getElem]
        refine ⟨hi.1, by simp [hi.2], fun a ha => ?_⟩
        simp
        intro z
        have := List.pairwise_iff_getElem.1 Y.nd a i (Nat.lt_trans ha hi.1) hi.1 ha
        exact this (by rw [z, hi.2])
      rw [this]; rfl
  have live_srt : live.Pairwise fun a b => a.1 < b.1 := by
    show ((List.range (m + 1)).filterMap _).Pairwise _
    refine List.Pairwise.filterMap _ (R := (· < ·)) (fun a b hab c hc d hd => ?_) List.pairwise_lt_range
    cases q1 : owner.getD a none with
    | none => rw [q1] at hc; cases hc
    | some i => cases q2 : owner.getD b none with
      | none => rw [q2] at hd; cases hd
      | some i2 => rw [q1] at hc; rw [q2] at hd; cases hc; cases hd; exact hab
  let L : List El := live.filterMap fun p => (es[p.2]?).map fun x => (p.1, x)
  have hin : ∀ p ∈ live, ∃ x, es[p.2]? = some x := fun p hp => by
    have := (live_mem p.1 p.2).1 hp
    have := (List.getElem?_eq_some_iff.mp this).1
    exact ⟨_, Array.getElem?_eq_getElem (by omega)⟩
  have L1 : L.map (·.1) = live.map (·.1) := by
    show (live.filterMap _).map _ = _
    clear live_mem live_srt
    revert hin
    generalize live = l
    intro hin
    induction l with
    | nil => rfl
    | cons p l ih =>
      obtain ⟨x, hx⟩ := hin p (by simp)
      rw [List.filterMap_cons, hx]
      simp [ih fun q hq => hin q (by simp [hq])]
  have L2 : L.map (·.2) = live.filterMap fun p => es[p.2]? := by
    show (live.filterMap _).map _ = _
    rw [List.map_filterMap]
    congr 1
    funext p
    cases es[p.2]? <;> rfl
  have perm : List.Perm (live.map (·.2)) (List.range es.size) := by
    rw [List.perm_ext_iff_of_nodup]
    · intro i
      rw [List.mem_map, List.mem_range]
      constructor
      · rintro ⟨p, hp, rfl⟩
        have := (live_mem p.1 p.2).1 hp
        have := (List.getElem?_eq_some_iff.mp this).1
        omega
      · intro hi
        exact ⟨(P[i], i), (live_mem _ _).2 (List.getElem?_eq_getElem (by omega)), rfl⟩
    · rw [List.Nodup, List.pairwise_map]
      refine live_srt.imp_of_mem fun {a b} ha hb hab z => ?_
      have h1 := (live_mem a.1 a.2).1 ha
      have h2 := (live_mem b.1 b.2).1 hb
      rw [z, h2] at h1
      have := Option.some.inj h1
      omega
    · exact List.nodup_range
  have perm2 : List.Perm (L.map (·.2)) es.toList := by
    rw [L2, show (live.filterMap fun p => es[p.2]?) = (live.map (·.2)).filterMap (es[·]?) by rw [List.filterMap_map]; rfl]
    refine (List.Perm.filterMap _ perm).trans ?_
    rw [PySem.filterMap_getElem?_range]
  have hLl : L.length = es.size := by have := perm2.length_eq; simpa using this
  refine ⟨{ mask := m, place := (live.map (·.1)).toArray, dummies := #[], finger := t.finger, led := t.led, moves := t.movedTo m, plain := t.plain }, (live.map (·.2)).toArray, L, ?_, ?_, ⟨?_, ?_, ?_, ?_, rfl, ?_, ⟨k, h3, hm⟩, ?_⟩, perm2, rfl⟩
  · unfold relaid laid
    rw [hmm]
    simp only [e, Option.bind_eq_bind, Option.bind_some, Option.pure_def]
    rfl
  · rw [← Array.length_toList]
    have : ((live.map (·.2)).toArray.filterMap (es[·]?)).toList = L.map (·.2) := by rw [L2]; simp [List.filterMap_map]; rfl
    rw [this]; simpa using hLl
  · rw [L1]
  · rw [L2]; simp [List.filterMap_map]; rfl
  · have : (L.map (·.1)).Pairwise (· < ·) := by rw [L1, List.pairwise_map]; exact live_srt
    rwa [List.pairwise_map] at this
  · intro x hx
    have : x.1 ∈ live.map (·.1) := by rw [← L1]; exact List.mem_map.2 ⟨x, hx, rfl⟩
    obtain ⟨p, hp, hpe⟩ := List.mem_map.1 this
    have := Y.le p.1 (List.mem_of_getElem? ((live_mem p.1 p.2).1 hp))
    show x.1 ≤ m
    omega
  · show L.length ≤ m; omega
  · intro x hx
    obtain ⟨p, hp, hpe⟩ := List.mem_filterMap.1 hx
    obtain ⟨y, hy⟩ := hin p hp
    rw [hy] at hpe; cases hpe
    obtain ⟨h, n, e1, e2, e3⟩ := Y.path p.2 p.1 ((live_mem p.1 p.2).1 hp)
    have eh : h = y.1 := by
      simp at e1
      obtain ⟨z, hz⟩ := e1
      rw [hy] at hz
      simp_all
    subst eh
    refine ⟨n, e2, fun q hq => ?_⟩
    rw [L1]
    obtain ⟨i, hi⟩ := List.getElem?_of_mem (e3 q hq)
    exact List.mem_map.2 ⟨(pos m y.1 q, i), (live_mem _ _).2 hi, rfl⟩
end ST
set_option Elab.async false
set_option linter.all false
set_option maxRecDepth 100000
namespace ST
open PySem PySem.SetTable
section
variable {prog : Program} {w : World} {K : Type} [DecidableEq K] {knd : KeyKind prog w K} {A : Around} {E : Value → Shared → Prop} {s : Shared}
theorem hashBy_val (n : Nat) {v : Value} (h : carriedByValue v = true) {Q : Bool → Shared → Prop} (q : ∀ b, Q b s) : wpAny (model prog w) A (hashByValue n v) Q E s := by
  cases v <;> first | (simp [carriedByValue] at h; done) | (unfold hashByValue; exact wpAny_pure (q _))
theorem hashBy_tup {ks : List K} {a : Addr} {n : Nat} {Q : Bool → Shared → Prop} (hk : IsTupleKey knd s.heap ks a) (q : ∀ b, Q b s) : wpAny (model prog w) A (hashByValue (n + 1) (.ref a)) Q E s := by
  have hT := hk.typeIs
  obtain ⟨o, items, m, ho, _, hd, hi⟩ := hk
  unfold hashByValue
  refine wpAny_bind (wpAny_specialOf hT F.slot_tuple_hash.lookup ?_)
  dsimp only
  refine wpAny_bind (wpAny_seqItems ho hd ?_)
  refine wpAny_bind ?_
  show wpAny _ _ (forIn items _ _) _ _ s
  rw [← Array.forIn_toList]
  refine wpAny_forIn_list _ (fun rest r s' => s' = s ∧ ∀ v ∈ rest, carriedByValue v = true) _ ?_ ?_ _ _ ⟨rfl, hi.byValue⟩
  · rintro v rest r s' ⟨rfl, hall⟩
    refine wpAny_bind (hashBy_val _ (hall v List.mem_cons_self) fun b => ?_)
    cases b
    · exact wpAny_pure (wpAny_pure (q _))
    · exact wpAny_pure ⟨rfl, fun u hu => hall u (List.mem_cons_of_mem _ hu)⟩
  · rintro ⟨r1, r2⟩ s' ⟨rfl, _⟩
    cases r1 <;> exact wpAny_pure (q _)
theorem cls_val (n : Nat) {v : Value} (h : carriedByValue v = true) : ofAClassStatement n v = pure false := by
  cases v <;> first | (simp [carriedByValue] at h; done) | (cases n <;> rfl) | (cases n <;> unfold ofAClassStatement <;> rfl)
theorem cls_tup {ks : List K} {a : Addr} {n : Nat} {Q : Bool → Shared → Prop} (hk : IsTupleKey knd s.heap ks a) (q : Q false s) : wpAny (model prog w) A (ofAClassStatement (n + 1) (.ref a)) Q E s := by
  have hT := hk.typeIs
  obtain ⟨o, items, m, ho, _, hd, hi⟩ := hk
  unfold ofAClassStatement
  refine wpAny_bind (wpAny_typeOf hT ?_)
  dsimp only
  simp only [beq_self_eq_true, if_true]
  refine wpAny_bind (wpAny_pure ?_)
  simp only [Bool.not_true, Bool.false_eq_true, if_false]
  refine wpAny_bind (wpAny_seqItems ho hd ?_)
  dsimp only
  refine wpAny_bind ?_
  show wpAny _ _ (forIn items _ _) _ _ s
  rw [← Array.forIn_toList]
  refine wpAny_forIn_list _ (fun rest r s' => r.1 = none ∧ s' = s ∧ ∀ v ∈ rest, carriedByValue v = true) _ ?_ ?_ _ _ ⟨rfl, rfl, hi.byValue⟩
  · rintro v rest r s' ⟨hr, rfl, hall⟩
    rw [cls_val _ (hall v List.mem_cons_self)]
    refine wpAny_bind (wpAny_pure ?_)
    simp only [Bool.false_eq_true, if_false]
    exact wpAny_pure ⟨rfl, rfl, fun u hu => hall u (List.mem_cons_of_mem _ hu)⟩
  · rintro ⟨r1, r2⟩ s' ⟨hr, rfl, _⟩
    simp only at hr
    subst hr
    exact wpAny_pure q
theorem unseen_tup {ks : List K} {a : Addr} {ys : List Value} {Q : Bool → Shared → Prop} (hk : IsTupleKey knd s.heap ks a) (hy : ∀ y ∈ ys, ∃ b k', y = .ref b ∧ IsTupleKey knd s.heap k' b) (q : Q false s) : wpAny (model prog w) A (searchCouldBeSeen (.ref a) ys) Q E s := by
  unfold searchCouldBeSeen
  refine wpAny_bind ?_
  refine wpAny_forIn_list _ (fun rest r s' => r.1 = none ∧ s' = s ∧ ∀ y ∈ rest, ∃ b k', y = .ref b ∧ IsTupleKey knd s.heap k' b) _ ?_ ?_ _ _ ⟨rfl, rfl, hy⟩
  · rintro v rest r s' ⟨hr, rfl, hall⟩
    obtain ⟨b, k', rfl, hb⟩ := hall v List.mem_cons_self
    have rest' : ∀ y ∈ rest, ∃ b k', y = .ref b ∧ IsTupleKey knd s'.heap k' b := fun y hy => hall y (List.mem_cons_of_mem _ hy)
    dsimp only
    by_cases hv : (a == b || (carriedByValue (.ref a) && carriedByValue (.ref b))) = true
    · rw [if_pos hv]; exact wpAny_pure ⟨rfl, rfl, rest'⟩
    · rw [if_neg hv]
      refine wpAny_bind (wpAny_eqIsQuiet_tuple hk ?_)
      simp only [Bool.not_true, Bool.false_eq_true, if_false]
      refine wpAny_bind (wpAny_eqIsQuiet_tuple hb ?_)
      simp only [Bool.not_true, Bool.false_eq_true, if_false]
      refine wpAny_bind (cls_tup hk ?_)
      simp only [Bool.false_eq_true, if_false]
      refine wpAny_bind (cls_tup hb ?_)
      simp only [Bool.false_eq_true, if_false]
      exact wpAny_pure ⟨rfl, rfl, rest'⟩
  · rintro ⟨r1, r2⟩ s' ⟨hr, rfl, _⟩
    simp only at hr
    subst hr
    exact wpAny_pure q
noncomputable def masks : List Nat := [7, 31, 127, 511, 2047, 8191]
structure Held (knd : KeyKind prog w K) (h : Heap) (ds : List (List K)) (t : SetTable) (es : Array (Int × Value)) (L : List El) : Prop where
  tab : Tab t es L
  mask : t.mask ∈ masks
  room : L.length * 5 < t.mask * 3
  all : ∀ e ∈ L, ∃ k ad, k ∈ ds ∧ e.2 = (tupleKeyHash knd k, .ref ad) ∧ IsTupleKey knd h k ad
  has : ∀ k ∈ ds, ∃ e ∈ L, ∃ ad, e.2 = (tupleKeyHash knd k, .ref ad) ∧ IsTupleKey knd h k ad
  len : L.length = ds.length
noncomputable def SetT (knd : KeyKind prog w K) (h : Heap) (a : Addr) (ds : List (List K)) : Prop := ∃ o es ep t L, h.get? a = some o ∧ o.ExactSet ∧ o.data = .set es ep t ∧ Held knd h ds t es L
theorem turns_le {m : Nat} (h : m ∈ masks) : 10 * turns m < 100000 ∧ m % 2 = 1 := by
  simp [masks] at h
  rcases h with rfl | rfl | rfl | rfl | rfl | rfl <;> decide
theorem same_self {x : Addr} {Q : Bool → Shared → Prop} (q : Q true s) : wpAny (model prog w) A (isSame (.ref x) (.ref x)) Q E s := by
  unfold isSame
  dsimp only
  rw [if_pos (by simp)]
  exact wpAny_pure q
theorem led_case {α : Type} {b : Bool} {S : Sem Bool} {U Y : Sem α} {Q : α → Shared → Prop} (hS : b = false → wpAny (model prog w) A S (fun r s' => r = false ∧ s' = s) E s) (hY : wpAny (model prog w) A Y Q E s) :
    wpAny (model prog w) A (if (!b) = true then (do let r ← S; if r = true then U else Y) else Y) Q E s := by
  cases b with
  | true => simp only [Bool.not_true, Bool.false_eq_true, if_false]; exact hY
  | false =>
    simp only [Bool.not_false, if_true]
    refine wpAny_bind (wpAny_mono (hS rfl) (fun r s' h => ?_) fun _ _ x => x)
    obtain ⟨rfl, rfl⟩ := h
    simp only [Bool.false_eq_true, if_false]
    exact hY
theorem search_ok {a ad : Addr} {ds : List (List K)} {k : List K} {o : Obj} {es : Array (Int × Value)} {ep : Nat} {t : SetTable} {L : List El} (ho : s.heap.get? a = some o) (hd : o.data = .set es ep t) (H : Held knd s.heap ds t es L) (hu : A.units < cLine) (hk : IsTupleKey knd s.heap k ad)
    {n : Nat} (hn : pos t.mask (tupleKeyHash knd k) n ∉ L.map (·.1)) (hall : ∀ i < n, pos t.mask (tupleKeyHash knd k) i ∈ L.map (·.1)) (hfuel : n < 10 * turns t.mask) {Q : SetFound → Shared → Prop} (q1 : k ∈ ds → Q (.there none) s) (q2 : k ∉ ds → Q (.free (pos t.mask (tupleKeyHash knd k) n) false) s) :
    ∀ fuel i, i ≤ n → n - i < fuel → (∀ r < i, ∀ e ∈ L, e.1 = pos t.mask (tupleKeyHash knd k) r → ∀ k' ad', e.2 = (tupleKeyHash knd k', .ref ad') → IsTupleKey knd s.heap k' ad' → k' ≠ k) →
      ∀ stand : Option Probe, stand.getD (t.probeStart (tupleKeyHash knd k)) = st t.mask (tupleKeyHash knd k) i → wpAny (model prog w) A (setSearchFrom a (.ref ad) (tupleKeyHash knd k) true fuel stand) Q E s
  | 0, i, _, hf, _, _, _ => by omega
  | fuel + 1, i, hi, hf, hbef, stand, hst => by
    have T := H.tab
    have hm := turns_le H.mask
    have es_at : ∀ (x : Nat) (e : El), L[x]? = some e → es[x]? = some e.2 := fun x e he => by
      rw [← Array.getElem?_toList, T.es, List.getElem?_map, he]; rfl
    unfold setSearchFrom
    refine wpAny_bind (wpAny_setState_of ho hd T.fits ?_)
    dsimp only
    have gw : t.gaveWay = false := by unfold SetTable.gaveWay; simp; omega
    rw [gw, hst]
    simp only [Bool.false_eq_true, if_false]
    unfold SetTable.probe
    rcases T.probe (hashAt := fun x => (es[x]?.map (·.1)).getD 0) (fun x e he => by rw [es_at x e he]; rfl) hn hall (10 * turns t.mask) i hi (by omega) with ⟨q, idx, e, h1, h2, h3, h4, h5, h6, h7⟩ | ⟨h1, h2⟩
    · split
      · rename_i met heq
        have e0 := Option.some.inj (heq.symm.trans h7)
        subst e0
        dsimp only
        have he : e ∈ L := List.mem_of_getElem? h3
        obtain ⟨k', ad', hk', ee, hkk⟩ := H.all e he
        have ecand : es[idx]? = some (tupleKeyHash knd k', .ref ad') := by rw [es_at idx e h3, ee]
        refine led_case (fun _ => ?_) ?_
        · refine unseen_tup hk (fun y hy => ?_) ⟨rfl, rfl⟩
          obtain ⟨z, hz, rfl⟩ := List.mem_map.1 hy
          have hz2 : z ∈ es.toList := by
            have := Array.mem_filter.1 (Array.mem_toList_iff.1 hz)
            exact Array.mem_toList_iff.2 this.1
          rw [T.es] at hz2
          obtain ⟨e', he', rfl⟩ := List.mem_map.1 hz2
          obtain ⟨k2, ad2, _, e2, hk2⟩ := H.all e' he'
          exact ⟨ad2, k2, by rw [e2], hk2⟩
        · rw [ecand]
          dsimp only
          refine wpAny_bind (wpAny_holding (wpAny_eqBool_tuple hu hkk hk ?_))
          refine wpAny_bind (wpAny_setState_of ho hd T.fits ?_)
          dsimp only
          by_cases hq : k' = k
          · subst hq
            simp only [decide_true, Bool.and_self, if_true]
            exact wpAny_pure (q1 hk')
          · simp only [hq, decide_false, Bool.and_false, Bool.false_eq_true, if_false]
            have sm : t.sameMemory t.moves t.mask = some true := by unfold SetTable.sameMemory; simp
            rw [sm]
            dsimp only
            rw [if_pos rfl, T.slot_live h3]
            dsimp only
            rw [ecand]
            dsimp only
            refine wpAny_bind (same_self (wpAny_bind (wpAny_pure ?_)))
            simp only [if_true]
            refine search_ok ho hd H hu hk hn hall hfuel q1 q2 fuel (q + 1) (by omega) (by omega) (fun r hr e' he' e1 k2 ad2 e2 hk2 => ?_) _ rfl
            by_cases hri : r < i
            · exact hbef r hri e' he' e1 k2 ad2 e2 hk2
            · by_cases hrq : r = q
              · subst hrq
                have : e' = e := by
                  obtain ⟨x', hx'⟩ := List.getElem?_of_mem he'
                  have a1 := T.slot_live hx'
                  have a2 := T.slot_live h3
                  rw [e1, ← h4, a2] at a1
                  cases a1
                  rw [h3] at hx'; cases hx'; rfl
                subst this
                rw [ee] at e2
                have e3 := (Prod.mk.inj e2).2
                cases e3
                rintro rfl
                exact hq (hkk.inj hk2)
              · have := h6 r (by omega) (by omega) e' he' e1
                rintro rfl
                exact this (by rw [e2])
      · rename_i hno
        exact absurd h7 (hno _)
    · split
      · rename_i met heq
        have e0 := Option.some.inj (heq.symm.trans h2)
        subst e0
        dsimp only
        refine wpAny_pure (q2 fun hkd => ?_)
        obtain ⟨e, he, ad', ee, hkk⟩ := H.has k hkd
        obtain ⟨n', p1, p2⟩ := T.path e he
        rw [ee] at p1 p2
        dsimp only at p1 p2
        have hlt : n' < n := by
          apply Classical.byContradiction
          intro hge
          by_cases hnn : n' = n
          · subst hnn; exact hn (by rw [p1]; exact List.mem_map.2 ⟨e, he, rfl⟩)
          · exact hn (p2 n (by omega))
        by_cases hri : n' < i
        · exact hbef n' hri e he p1.symm k ad' ee hkk rfl
        · exact h1 n' (by omega) hlt e he p1.symm (by rw [ee])
      · rename_i hno
        exact absurd h2 (hno _)
end
end ST
set_option Elab.async false
set_option linter.all false
set_option maxRecDepth 100000
namespace ST
open PySem PySem.SetTable
section
variable {prog : Program} {w : World} {K : Type} [DecidableEq K] {knd : KeyKind prog w K} {A : Around} {E : Value → Shared → Prop} {s : Shared}
theorem key_stays {h h' : Heap} {ks : List K} {a d : Addr} {o : Obj} {es ep t} (x : IsTupleKey knd h ks a) (ho : h.get? d = some o) (hd : o.data = .set es ep t) (hs : Heap.SameBut d h h') : IsTupleKey knd h' ks a := by
  obtain ⟨o', items, n, ho', hc, hd', hi⟩ := x
  have hne : a ≠ d := by
    rintro rfl
    obtain rfl : o' = o := Option.some.inj (ho'.symm.trans ho)
    rw [hd] at hd'; cases hd'
  exact ⟨o', items, n, (hs.2 a hne).trans ho', hc, hd', hi⟩
theorem store_at {h : Heap} {a : Addr} {o : Obj} {es : Array (Int × Value)} {ep : Nat} {t : SetTable} (ho : h.get? a = some o) (hd : o.data = .set es ep t) (es' : Array (Int × Value)) (t' : SetTable) :
    (h.update a (Obj.putSet es' t')).get? a = some { o with data := .set es' (ep + 1) t' } := by
  have := Heap.get?_update_self (Obj.putSet es' t') ho (by rw [putSet_of es' t' hd]; rfl)
  rw [putSet_of es' t' hd] at this; exact this
theorem grow {m n : Nat} (hm : m ∈ masks) (h1 : (n - 1) * 5 < m * 3) (h2 : m * 3 ≤ n * 5) (hn : n ≤ 4000) : ∃ k, 3 ≤ k ∧ sizeAbove (grown n) = 2 ^ k ∧ n < sizeAbove (grown n) - 1 ∧ sizeAbove (grown n) - 1 ∈ masks ∧ n * 5 < (sizeAbove (grown n) - 1) * 3 ∧ sizeAbove (grown n) ≤ 8192 := by
  simp [masks] at hm
  rcases hm with rfl | rfl | rfl | rfl | rfl | rfl
  · have : n = 5 := by omega
    subst this; exact ⟨5, by decide +kernel⟩
  · have : n = 19 := by omega
    subst this; exact ⟨7, by decide +kernel⟩
  · have : n = 77 := by omega
    subst this; exact ⟨9, by decide +kernel⟩
  · have : n = 307 := by omega
    subst this; exact ⟨11, by decide +kernel⟩
  · have : n = 1229 := by omega
    subst this; exact ⟨13, by decide +kernel⟩
  · omega
theorem relay_ok {a : Addr} {o : Obj} {es : Array (Int × Value)} {ep : Nat} {t : SetTable} {L : List El} {ds : List (List K)} (ho : s.heap.get? a = some o) (hex : o.ExactSet) (hd : o.data = .set es ep t) (T : Tab t es L) (hm : t.mask ∈ masks)
    (h1 : (L.length - 1) * 5 < t.mask * 3) (h2 : t.mask * 3 ≤ L.length * 5) (hn : L.length ≤ 4000)
    (all : ∀ e ∈ L, ∃ k ad, k ∈ ds ∧ e.2 = (tupleKeyHash knd k, .ref ad) ∧ IsTupleKey knd s.heap k ad) (has : ∀ k ∈ ds, ∃ e ∈ L, ∃ ad, e.2 = (tupleKeyHash knd k, .ref ad) ∧ IsTupleKey knd s.heap k ad) (len : L.length = ds.length)
    {Q : Unit → Shared → Prop} (q : ∀ h', Heap.SameBut a s.heap h' → SetT knd h' a ds → Q () { s with heap := h' }) : wpAny (model prog w) A (setRelay a (grown L.length)) Q E s := by
  obtain ⟨k, k3, hk, hlt, hmk, hrm, h8⟩ := grow hm h1 h2 hn
  obtain ⟨t', order, L', e1, e2, T', perm, emask⟩ := relaid_ok (t := t) (es := es) (wanted := grown L.length) hk k3 (by rw [T.size]; exact hlt)
  have hsl : ¬ sizeAbove (grown L.length) > sizeLine := by have := L2.sizeLine_ge; omega
  have hperm : List.Perm (L'.map (·.2)) (L.map (·.2)) := by rw [← T.es]; exact perm
  have hl : L'.length = L.length := by have := hperm.length_eq; simpa using this
  unfold setRelay
  refine wpAny_bind (wpAny_setState_of ho hd T.fits ?_)
  dsimp only
  rw [if_neg hsl, e1]
  refine wpAny_bind (m := _) ?_
  show wpAny _ _ (if ((order.filterMap (es[·]?)).size != es.size) = true then _ else _) _ _ s
  rw [if_neg (by simp [e2])]
  refine wpAny_pure ?_
  dsimp only
  have hz : (order.filterMap (es[·]?)).size ≤ sizeLine := by rw [e2, T.size]; have := L2.sizeLine_ge; omega
  refine wpAny_storeSet_of ho hd ?_ hz
  have sb := Heap.SameBut.update s.heap a (Obj.putSet (order.filterMap (es[·]?)) t')
  refine q _ sb ⟨_, _, _, _, L', store_at ho hd _ t', hex, rfl, T', by rw [emask]; exact hmk, by rw [hl, emask]; exact hrm, fun e he => ?_, fun k hk => ?_, by rw [hl]; exact len⟩
  · have : e.2 ∈ L.map (·.2) := hperm.mem_iff.1 (List.mem_map.2 ⟨e, he, rfl⟩)
    obtain ⟨e', he', ee⟩ := List.mem_map.1 this
    obtain ⟨k, ad, k1, k2, k3⟩ := all e' he'
    exact ⟨k, ad, k1, by rw [← ee]; exact k2, key_stays k3 ho hd sb⟩
  · obtain ⟨e, he, ad, k2, k3⟩ := has k hk
    have : e.2 ∈ L'.map (·.2) := hperm.mem_iff.2 (List.mem_map.2 ⟨e, he, rfl⟩)
    obtain ⟨e', he', ee⟩ := List.mem_map.1 this
    exact ⟨e', he', ad, by rw [ee]; exact k2, key_stays k3 ho hd sb⟩
theorem add_ok {a ad : Addr} {ds : List (List K)} {k : List K} (hS : SetT knd s.heap a ds) (hu : A.units < cLine) (hk : IsTupleKey knd s.heap k ad) (hb : ds.length + 1 ≤ 4000) {Q : Bool → Shared → Prop}
    (q : ∀ h' b, Heap.SameBut a s.heap h' → SetT knd h' a (if k ∈ ds then ds else ds ++ [k]) → Q b { s with heap := h' }) : wpAny (model prog w) A (setAddHashed a (.ref ad) (tupleKeyHash knd k)) Q E s := by
  obtain ⟨o, es, ep, t, L, ho, hex, hd, H⟩ := id hS
  have T := H.tab
  obtain ⟨n, hn1, hn2, hn3⟩ := T.free (tupleKeyHash knd k)
  have hm := turns_le H.mask
  unfold setAddHashed
  refine wpAny_holding ?_
  show wpAny _ _ (setAddHashedIn a (.ref ad) (tupleKeyHash knd k) (99999 + 1)) _ _ s
  unfold setAddHashedIn
  refine wpAny_bind (wpAny_setState_of ho hd T.fits ?_)
  dsimp only
  have hsc : byScan (.ref ad) es = false := by unfold byScan; simp [Value.scannable]
  rw [hsc]
  simp only [Bool.false_eq_true, if_false]
  unfold setSearch
  refine wpAny_bind (search_ok ho hd H hu hk hn2 hn3 hn1 (fun hin => ?_) (fun hnot => ?_) 100000 0 (by omega) (by omega) (fun r hr => by omega) none rfl)
  · dsimp only
    refine wpAny_pure ?_
    have := q s.heap false (Heap.SameBut.refl a s.heap) (by rw [if_pos hin]; exact hS)
    have e : s = { s with heap := s.heap } := by cases s; rfl
    rw [e]; exact this
  · dsimp only
    refine wpAny_bind (wpAny_setState_of ho hd T.fits ?_)
    dsimp only
    have hLm : L.length + 1 ≤ t.mask := by have := H.room; have := H.mask; simp [masks] at this; omega
    have fin : ∀ (pn : Bool) (t2 : SetTable), t2 = { (t.put (pos t.mask (tupleKeyHash knd k) n)).1 with plain := pn } → wpAny (model prog w) A (do
        storeSet a (insertAt es (t.put (pos t.mask (tupleKeyHash knd k) n)).2 (tupleKeyHash knd k, .ref ad)) t2
        if (!false && t2.tooFull) = true then do setRelay a (grown (es.size + 1)); pure true
        else pure true) Q E s := fun pn t2 et2 => by
      have T2 := T.put (x := .ref ad) hn2 hn3 hLm pn
      rw [← et2] at T2
      have tm : t2.mask = t.mask := by rw [et2]; rfl
      have il := ins_len (L := L) (e := (pos t.mask (tupleKeyHash knd k) n, (tupleKeyHash knd k, Value.ref ad)))
      generalize insertAt es (t.put (pos t.mask (tupleKeyHash knd k) n)).2 (tupleKeyHash knd k, .ref ad) = es2 at *
      have hL4 : L.length + 1 ≤ 4000 := by have := H.len; omega
      have hz : es2.size ≤ sizeLine := by rw [T2.size, il]; have := L2.sizeLine_ge; omega
      refine wpAny_bind (wpAny_storeSet_of ho hd ?_ hz)
      have sb := Heap.SameBut.update s.heap a (Obj.putSet es2 t2)
      have ho2 := store_at ho hd es2 t2
      have hk2 := key_stays hk ho hd sb
      have all : ∀ e ∈ ins L (pos t.mask (tupleKeyHash knd k) n, (tupleKeyHash knd k, Value.ref ad)), ∃ k' ad', k' ∈ ds ++ [k] ∧ e.2 = (tupleKeyHash knd k', .ref ad') ∧ IsTupleKey knd (s.heap.update a (Obj.putSet es2 t2)) k' ad' := fun e he => by
        rcases mem_ins.1 he with rfl | he
        · exact ⟨k, ad, by simp, rfl, hk2⟩
        · obtain ⟨k', ad', a1, a2, a3⟩ := H.all e he
          exact ⟨k', ad', by simp [a1], a2, key_stays a3 ho hd sb⟩
      have has : ∀ k' ∈ ds ++ [k], ∃ e ∈ ins L (pos t.mask (tupleKeyHash knd k) n, (tupleKeyHash knd k, Value.ref ad)), ∃ ad', e.2 = (tupleKeyHash knd k', .ref ad') ∧ IsTupleKey knd (s.heap.update a (Obj.putSet es2 t2)) k' ad' := fun k' hk' => by
        rcases List.mem_append.1 hk' with hk' | hk'
        · obtain ⟨e, he, ad', a2, a3⟩ := H.has k' hk'
          exact ⟨e, mem_ins.2 (.inr he), ad', a2, key_stays a3 ho hd sb⟩
        · simp at hk'; subst hk'
          exact ⟨_, mem_ins.2 (.inl rfl), ad, rfl, hk2⟩
      have len : (ins L (pos t.mask (tupleKeyHash knd k) n, (tupleKeyHash knd k, Value.ref ad))).length = (ds ++ [k]).length := by rw [il, H.len]; simp
      have hfill : t2.fill = L.length + 1 := by
        unfold SetTable.fill
        rw [T2.du, ← Array.length_toList, T2.pl, List.length_map, il]; rfl
      by_cases hfull : t2.tooFull = true
      · rw [hfull]
        simp only [Bool.not_false, Bool.and_self, if_true]
        have hf2 : t.mask * 3 ≤ (L.length + 1) * 5 := by
          unfold SetTable.tooFull at hfull
          rw [hfill, tm] at hfull
          simpa using hfull
        have hrm := H.room
        have hsz : es.size + 1 = (ins L (pos t.mask (tupleKeyHash knd k) n, (tupleKeyHash knd k, Value.ref ad))).length := by rw [il, T.size]
        rw [hsz]
        refine wpAny_bind (relay_ok (s := { s with heap := s.heap.update a (Obj.putSet es2 t2) }) ho2 hex rfl T2 (by rw [tm]; exact H.mask) (by rw [il, tm]; simpa using hrm) (by rw [il, tm]; exact hf2) (by rw [il]; exact hL4) all has len fun h' sb' S' => ?_)
        refine wpAny_pure (q h' true (sb.trans sb') ?_)
        rw [if_neg hnot]; exact S'
      · have hfull' : t2.tooFull = false := by simpa using hfull
        rw [hfull']
        simp only [Bool.and_false, Bool.false_eq_true, if_false]
        have hf2 : (L.length + 1) * 5 < t.mask * 3 := by
          unfold SetTable.tooFull at hfull'
          rw [hfill, tm] at hfull'
          simpa using hfull'
        refine wpAny_pure (q _ true sb ?_)
        rw [if_neg hnot]
        exact ⟨_, _, _, _, _, ho2, hex, rfl, T2, by rw [tm]; exact H.mask, by rw [il, tm]; exact hf2, all, has, len⟩
    split
    · refine wpAny_bind (hashBy_tup hk fun b => ?_)
      cases b
      · exact fin false _ rfl
      · exact fin _ _ rfl
    · refine wpAny_bind (wpAny_pure ?_)
      exact fin _ _ rfl
end
end ST
set_option Elab.async false
set_option linter.all false
set_option maxRecDepth 100000
namespace ST
open PySem PySem.SetTable
noncomputable def dd {κ : Type} [DecidableEq κ] (l : List κ) : List κ := l.foldl (fun ds k => if k ∈ ds then ds else ds ++ [k]) []
theorem dd_snoc {κ : Type} [DecidableEq κ] (l : List κ) (k : κ) : dd (l ++ [k]) = if k ∈ dd l then dd l else dd l ++ [k] := by unfold dd; rw [List.foldl_append]; rfl
theorem dd_snocs {κ : Type} [DecidableEq κ] : ∀ (l : List κ), (dd l).length ≤ l.length := by
  intro l
  induction hn : l.length generalizing l with
  | zero => have : l = [] := List.length_eq_zero_iff.1 hn; subst this; simp [dd]
  | succ n ih =>
    have hne : l ≠ [] := by rintro rfl; simp at hn
    have e := List.dropLast_concat_getLast hne
    rw [← e, dd_snoc]
    have := ih l.dropLast (by simp; omega)
    split
    · omega
    · simp; omega
section
variable {prog : Program} {w : World} {K : Type} [DecidableEq K] {knd : KeyKind prog w K} {A : Around} {R : Result → Shared → Prop} {E : Value → Shared → Prop} {s : Shared}
noncomputable def Keyed (knd : KeyKind prog w K) (h : Heap) (vs : List Value) (ks : List (List K)) : Prop := vs.length = ks.length ∧ ∀ (i : Nat) v, vs[i]? = some v → ∃ ad k, v = .ref ad ∧ ks[i]? = some k ∧ IsTupleKey knd h k ad
theorem loop_ok {I S l : Addr} {items : Array Value} {ks : List (List K)} (W : WalksS prog w A.in1 I [I, l] [I] (fun a b => b = a) items.size (fun i v => items[i]? = some v) (fun i s => s.heap.IsListIter I l i ∧ s.heap.IsList l items)) (hS : S ∉ [I, l]) (hu : A.in1.units < cLine) (hb : items.size < 4000) :
    ∀ (k i : Nat) (s : Shared), items.size - i = k → i ≤ items.size → (s.heap.IsListIter I l i ∧ s.heap.IsList l items) → Keyed knd s.heap items.toList ks → SetT knd s.heap S (dd (ks.take i)) →
      (∀ s', Moved [S, I] (fun a b => b = a) s s' → SetT knd s'.heap S (dd ks) → R (.ok (.ret .none)) s') → codeAny (model prog w) A (.builtin "set.update.loop" ⟨[.ref S, .ref I], []⟩) R s := by
  have SI : S ≠ I := fun z => hS (by simp [z])
  have Sl : S ≠ l := fun z => hS (by simp [z])
  intro k
  induction k with
  | zero =>
    intro i s hk hi st ky hT hR
    have ei : i = items.size := by omega
    subst ei
    refine codeAny_builtin (PyProof.Rows.F.entry_set_update_loop) ?_
    rw [Around.under_plainId (PyProof.Rows.F.plain_set_update_loop) _]
    show wpAny _ A.in1 (pyNext (.ref I) >>= _) _ _ s
    refine wpAny_bind (W.done s _ _ st fun s' hm => ?_)
    show wpAny _ A.in1 (ret Value.none) _ _ s'
    refine wpAny_pure (hR s' ⟨fun b o hb e => hm.heap b o (by simp at hb ⊢; exact hb.2) e, hm.gens, hm.drawn, hm.os, hm.toks⟩ ?_)
    have hks : ks.take items.size = ks := List.take_of_length_le (by have := ky.1; simp at this; omega)
    rw [hks] at hT
    obtain ⟨o, es, ep, t, L, ho, hex, hd, H⟩ := hT
    have keep : ∀ k ad, IsTupleKey knd s.heap k ad → IsTupleKey knd s'.heap k ad := fun k ad ⟨o', its, m, h1, h2, h3, h4⟩ => by
      refine ⟨o', its, m, hm.heap ad o' (fun z => ?_) h1, h2, h3, h4⟩
      simp at z; subst z
      obtain ⟨⟨oi, e1, e2, e3⟩, _⟩ := st
      rw [h1] at e1; cases e1; rw [h2] at e2; simp at e2
    exact ⟨o, es, ep, t, L, hm.heap S o (by simpa using SI) ho, hex, hd, H.tab, H.mask, H.room, fun e he => by obtain ⟨k, ad, a1, a2, a3⟩ := H.all e he; exact ⟨k, ad, a1, a2, keep k ad a3⟩, fun k hk => by obtain ⟨e, he, ad, a2, a3⟩ := H.has k hk; exact ⟨e, he, ad, a2, keep k ad a3⟩, H.len⟩
  | succ k ih =>
    intro i s hk hi st ky hT hR
    have hlt : i < items.size := by omega
    refine codeAny_builtin (PyProof.Rows.F.entry_set_update_loop) ?_
    rw [Around.under_plainId (PyProof.Rows.F.plain_set_update_loop) _]
    show wpAny _ A.in1 (pyNext (.ref I) >>= _) _ _ s
    refine wpAny_bind (W.item i s _ _ hlt st fun v s' hP st' hm => ?_)
    have keep : ∀ k ad, IsTupleKey knd s.heap k ad → IsTupleKey knd s'.heap k ad := fun k ad ⟨o', its, m, h1, h2, h3, h4⟩ => by
      refine ⟨o', its, m, hm.heap ad o' (fun z => ?_) h1, h2, h3, h4⟩
      simp at z; subst z
      obtain ⟨⟨oi, e1, e2, e3⟩, _⟩ := st
      rw [h1] at e1; cases e1; rw [h2] at e2; simp at e2
    have hT' : SetT knd s'.heap S (dd (ks.take i)) := by
      obtain ⟨o, es, ep, t, L, ho, hex, hd, H⟩ := hT
      exact ⟨o, es, ep, t, L, hm.heap S o (by simpa using SI) ho, hex, hd, H.tab, H.mask, H.room, fun e he => by obtain ⟨k, ad, a1, a2, a3⟩ := H.all e he; exact ⟨k, ad, a1, a2, keep k ad a3⟩, fun k hk => by obtain ⟨e, he, ad, a2, a3⟩ := H.has k hk; exact ⟨e, he, ad, a2, keep k ad a3⟩, H.len⟩
    have ky' : Keyed knd s'.heap items.toList ks := ⟨ky.1, fun i v hv => by obtain ⟨ad, k, a1, a2, a3⟩ := ky.2 i v hv; exact ⟨ad, k, a1, a2, keep k ad a3⟩⟩
    obtain ⟨ad, key, rfl, hkey, htk⟩ := ky'.2 i v (by rw [Array.getElem?_toList]; exact hP)
    show wpAny _ A.in1 (holding [Value.ref ad] (setAdd S (.ref ad)) >>= _) _ _ s'
    refine wpAny_bind (wpAny_holding ?_)
    unfold setAdd
    refine wpAny_holding ?_
    refine wpAny_bind (wpAny_pyHash_tuple hu htk ?_)
    have hdl := dd_snocs (ks.take i)
    have hti : (ks.take i).length ≤ i := by simp; omega
    refine add_ok (s := { s' with toks := s'.toks + (key.length + 1) }) hT' hu htk (by omega) fun h' b sb S2 => ?_
    obtain ⟨oS, _, epS, tS, LS, hoS, _, hdS, _⟩ := hT'
    have e2 : (if key ∈ dd (ks.take i) then dd (ks.take i) else dd (ks.take i) ++ [key]) = dd (ks.take (i + 1)) := by
      rw [List.take_succ, hkey]
      show _ = dd (ks.take i ++ [key])
      rw [dd_snoc]
      by_cases hmm : key ∈ dd (ks.take i) <;> simp [hmm]
    rw [e2] at S2
    refine wpAny_pure ⟨plainId_quiet (PyProof.Rows.F.plain_set_update_loop) _, ih (i + 1) _ (by omega) hlt ⟨st'.1.at fun o e => (sb.2 I (Ne.symm SI)).trans e, st'.2.at fun o e => (sb.2 l (Ne.symm Sl)).trans e⟩ ⟨ky'.1, fun i v hv => ?_⟩ S2 fun s'' hm'' hS'' => ?_⟩
    · obtain ⟨ad, k, a1, a2, a3⟩ := ky'.2 i v hv
      exact ⟨ad, k, a1, a2, key_stays a3 hoS hdS sb⟩
    · refine hR s'' ⟨fun b o hb e => hm''.heap b o hb ?_, hm''.gens.trans hm.gens, hm''.drawn.trans hm.drawn, hm''.os.trans hm.os, ?_⟩ hS''
      · simp at hb
        exact (sb.2 b hb.1).trans (hm.heap b o (by simpa using hb.2) e)
      · have h1 := hm.toks
        have h2 : s'.toks + (key.length + 1) ≤ s''.toks := hm''.toks
        omega
end
end ST
set_option Elab.async false
set_option linter.all false
set_option maxRecDepth 100000
namespace ST
open PySem PySem.SetTable
section
variable {prog : Program} {w : World} {K : Type} [DecidableEq K] {knd : KeyKind prog w K} {A : Around} {E : Value → Shared → Prop} {s : Shared}
noncomputable abbrev emptyO (led : Bool) : Obj := { cls := .type "set", dict := none, data := .set #[] 0 (.fresh 0 0 led) }
theorem setT_empty {h : Heap} {a : Addr} {led : Bool} (ho : h.get? a = some (emptyO led)) : SetT knd h a [] :=
  ⟨_, #[], 0, _, [], ho, ⟨rfl, rfl, rfl⟩, rfl, ⟨rfl, rfl, by simp, by simp, rfl, by simp, ⟨3, by decide, rfl⟩, by simp⟩, by simp [masks, SetTable.fresh], by simp [SetTable.fresh], by simp, by simp, rfl⟩
set_option maxHeartbeats 3200000 in
theorem call_set {l : Addr} {items : Array Value} {ks : List (List K)} {Q : Value → Shared → Prop} (hh : A.handled = none) (hu : A.units + 8 < cLine) (hl : s.heap.IsList l items) (ky : Keyed knd s.heap items.toList ks) (hb : items.size < 4000)
    (q : ∀ (h' : Heap) (tk : Nat), SetT knd h' s.heap.objs.size (dd ks) → (∀ b o, b < s.heap.objs.size → s.heap.get? b = some o → h'.get? b = some o) → Q (.ref s.heap.objs.size) { s with heap := h', toks := tk }) :
    wpAny (model prog w) A (call (.type "set") [.ref l]) Q E s := by
  obtain ⟨c, tl, hmro⟩ := F.called_set.mro
  have hmade := F.called_set.made
  have hsub := F.called_set.sub
  refine wpAny_call (codeAny_of_tree ?_)
  show wpAny _ _ (callAny (.type "set") _) _ _ _
  refine wpAny_pure ⟨Code.quiet_builtin _ (by decide +kernel), codeAny_builtin (F.entry_type_call) ?_⟩
  rw [Around.under_plain (weight_type_call_type "set" [.ref l] []) rfl]
  have h1 := F.called_set.notType
  have h2 := F.called_set.canCreate
  have hct := F.typeCall_set_1 (.ref l)
  repeat (any_goals (first | assumption | wp_step))
  refine codeAny_mono (code_set_new_1 (.ref l) (E := E) (Q₁ := fun obj s₁ => ∃ led : Bool, obj = .ref s.heap.objs.size ∧ s₁ = { s with heap := s.heap.push (emptyO led) }) fun led => ⟨led, rfl, rfl⟩) fun r s₁ hr => ?_
  cases r with
  | error e => exact hr
  | ok fl =>
    cases fl with
    | ret obj =>
      obtain ⟨led, rfl, rfl⟩ := hr
      have hS : (s.heap.push (emptyO led)).get? s.heap.objs.size = some (emptyO led) := Heap.get?_push_size _ rfl
      have hT : Shared.TypeIs { s with heap := s.heap.push (emptyO led) } (.ref s.heap.objs.size) "set" := ⟨_, hS, rfl⟩
      have hli := F.called_set.init.lookup
      have hbi := F.called_set.init.bind (.ref s.heap.objs.size)
      repeat (any_goals (first | assumption | wp_step))
      refine codeAny_mono (codeAny_call_builtin (R := wants (fun r s₂ => r = .none ∧ ∃ h' tk, s₂ = { s with heap := h', toks := tk } ∧ SetT knd h' s.heap.objs.size (dd ks) ∧
          (∀ b o, b < s.heap.objs.size → s.heap.get? b = some o → h'.get? b = some o)) E) F.called_set.init.plain F.entry_set_init (check_set_init_1 hT ?_)) fun r₂ s₂ hr₂ => ?_
      · obtain ⟨ol, hol, hcl, nl, hdl⟩ := id hl
        obtain ⟨ocls, odict, odata, oslots⟩ := ol
        simp only at hcl hdl
        subst hcl; subst hdl
        have hol' : (s.heap.push (emptyO led)).get? l = some { cls := .type "list", dict := odict, data := .seq items nl, slots := oslots } := Heap.get?_push_of_some _ hol
        have hsls := F.sub_list_set
        have hslf := F.sub_list_frozenset
        have hne : (Value.type "list" == Value.type "dict") = false := by decide
        have hl1 : (s.heap.push (emptyO led)).IsList l items := ⟨_, hol', rfl, nl, rfl⟩
        unfold Builtin.«set.__init__» noKeywords Builtin.Frozenset.updateFrom
        generalize hPI : pyIter = PI
        wp_walk
        subst hPI
        refine wpAny_pyIter_list hl1 ?_
        refine wpAny_bind (wpAny_runValue ?_)
        have hlS : @LT.lt Nat _ l s.heap.objs.size := Heap.lt_size hol
        have hh3 : A.in1.in1.in1.handled = none := by simp [hh]
        have hsz : (s.heap.push (emptyO led)).objs.size = s.heap.objs.size + 1 := Heap.size_push ..
        have hneI : l ≠ (s.heap.push (emptyO led)).objs.size := by rw [hsz]; exact Nat.ne_of_lt (by omega)
        have hSf : s.heap.objs.size ∉ [(s.heap.push (emptyO led)).objs.size, l] := by
          rw [hsz]; simp only [List.mem_cons, List.not_mem_nil, or_false, not_or]
          exact ⟨Nat.ne_of_lt (by omega), Nat.ne_of_gt hlS⟩
        have hget : ((s.heap.push (emptyO led)).push { cls := .type "list_iterator", data := .fields #[.ref l, .int 0 0] }).get? s.heap.objs.size = some (emptyO led) := Heap.get?_push_of_some _ hS
        refine loop_ok (knd := knd) (ks := ks) ((Walks.list hh3 _ l hneI items).toS) hSf ?hu hb (items.size - 0) 0 _ (by omega) (Nat.zero_le _) ⟨⟨_, Heap.get?_push_size _ rfl, rfl, rfl⟩, (hl1.push _)⟩ ⟨ky.1, fun i v hv => ?hk⟩ (by rw [List.take_zero]; exact setT_empty hget) ?hR
        case hu => show A.units + 1 + 1 + 1 < cLine; omega
        case hk =>
          obtain ⟨ad, k, a1, a2, o', its, m, b1, b2⟩ := ky.2 i v hv
          exact ⟨ad, k, a1, a2, o', its, m, Heap.get?_push_of_some _ (Heap.get?_push_of_some _ b1), b2⟩
        case hR =>
          intro s' hm hS'
          obtain ⟨h', g', d', tk', os'⟩ := s'
          have eg : g' = s.gens := hm.gens
          have ed : d' = s.drawn := hm.drawn
          have eo : os' = s.os := hm.os
          subst eg; subst ed; subst eo
          show wpAny _ _ _ _ _ _
          refine wpAny_pure ?_
          show wpAny _ _ (ret Value.none) _ _ _
          refine wpAny_pure ⟨rfl, h', tk', rfl, hS', fun b o hb e => ?_⟩
          have hb1 : b ≠ s.heap.objs.size := Nat.ne_of_lt hb
          have hb2 : b ≠ (s.heap.push (emptyO led)).objs.size := by rw [hsz]; exact Nat.ne_of_lt (Nat.lt_succ_of_lt hb)
          exact hm.heap b o (by simp only [List.mem_cons, List.not_mem_nil, or_false, not_or]; exact ⟨hb1, hb2⟩) (Heap.get?_push_of_some _ (Heap.get?_push_of_some _ e))
      · cases r₂ with
        | error e => exact hr₂
        | ok fl₂ =>
          cases fl₂ with
          | ret r =>
            obtain ⟨rfl, h', tk, rfl, hS', hk'⟩ := hr₂
            repeat (any_goals (first | assumption | wp_step))
            exact q _ _ hS' hk'
          | _ => exact hr₂.elim
    | _ => exact hr.elim
end
end ST
set_option Elab.async false
set_option linter.all false
set_option maxRecDepth 100000
namespace L3
open PySem L2
noncomputable def SetLen (p : Addr) (n : Nat) (h : Heap) : Prop := ∃ o es ep t, h.get? p = some o ∧ o.ExactSet ∧ o.data = .set es ep t ∧ t.fits es.size = true ∧ es.size = n
section
variable {X : Cx}
noncomputable def rSet (K : PySem.W.Frag) : List V → Hp → VK → Prop := fun xs H Q => ∃ (a : Addr) (vs : List V) (ks : List (List Key)), xs = [.ref a] ∧ SqL K H a vs ∧ vs.length = ks.length ∧ vs.length < 4000 ∧ (∀ (i : Nat) v, vs[i]? = some v → ∃ b k, v = .ref b ∧ ks[i]? = some k ∧ H b = some (.tup (k.map kV))) ∧
  ∀ p, H p = none → Q (.ref p) (upd H p (.ext (SetLen p (ST.dd ks).length)))
theorem call_setR (hc : X.calm = true) (hu : X.A.units + 8 < cLine) : CallR X (.type "set") (rSet X.K) := by
  intro pins s σ H xs us Q I r h
  obtain ⟨a, vs, ks, rfl, hq, hl, hb, hk, q⟩ := h
  obtain ⟨u, rfl, ru⟩ := vals1 r
  cases ru
  obtain ⟨its, rv, p, hz⟩ := I.list hq
  have hlen := rv.length
  refine ST.call_set (knd := mixKind X.prog X.w) (ks := ks) (I.ok.hd hc) hu p.isList ⟨by simp; omega, fun i v hv => ?_⟩ (by simp; omega) fun h' tk hS keep => ?_
  · simp at hv
    have hi : i < vs.length := by rw [hlen]; exact (List.getElem?_eq_some_iff.mp hv).1
    obtain ⟨b, k, e1, e2, e3⟩ := hk i vs[i] (List.getElem?_eq_getElem hi)
    obtain ⟨u, hu', ru⟩ := rv.get (List.getElem?_eq_getElem hi)
    rw [hv] at hu'
    cases hu'
    rw [e1] at ru
    cases ru
    exact ⟨b, k, rfl, e2, key_of I.hok e3⟩
  · have keep' : ∀ b o, s.heap.get? b = some o → h'.get? b = some o := fun b o e => keep b o (Heap.lt_size e) e
    obtain ⟨o, es, ep, t, L, ho, hex, hd, HH⟩ := hS
    refine ⟨.ref s.heap.objs.size, _, I.laid (t' := tk) (o := .ext (SetLen s.heap.objs.size (ST.dd ks).length)) keep' (Nat.le_refl _) ?_, rfl, q _ (I.hok.fresh (Nat.le_refl _))⟩
    refine ⟨⟨o, es, ep, t, ho, hex, hd, HH.tab.fits, by rw [HH.tab.size]; exact HH.len⟩, ⟨o, ho⟩, fun h1 h2 ⟨o, es, ep, t, g1, g2⟩ k => ⟨o, es, ep, t, k o g1, g2⟩⟩
theorem call_lenS : CallR X (.builtin "len") (fun xs H Q => ∃ p n, xs = [V.ref p] ∧ H p = some (.ext (SetLen p n)) ∧ n < 100000 ∧ Q (.int n) H) := by
  intro pins s σ H xs us Q I r h
  obtain ⟨p, n, rfl, hp, hn, q⟩ := h
  obtain ⟨u, rfl, ru⟩ := vals1 r
  cases ru
  obtain ⟨⟨o, es, ep, t, ho, hex, hd, hf, hz⟩, _⟩ := I.hok p _ hp
  refine call_len_set ho hex hd hf (by omega) ?_
  rw [hz]
  exact ⟨.int n, H, I.tok _, ⟨_, rfl⟩, q⟩
noncomputable def keysL : List D → Option (List (List Key))
  | [] => some []
  | .tup l :: ds => (keysD l).bind fun k => (keysL ds).map (k :: ·)
  | _ => none
theorem keysL_at {K : PySem.W.Frag} {F : Hp} : ∀ {ds : List D} {ks : List (List Key)} {vs : List V}, keysL ds = some ks → Reps K F ds vs → vs.length = ks.length ∧ ∀ (i : Nat) v, vs[i]? = some v → ∃ b k, v = .ref b ∧ ks[i]? = some k ∧ F b = some (.tup (k.map kV))
  | [], _, _, e, r => by cases e; rw [r.unnil]; simp
  | d :: ds, ks, _, e, r => by
    obtain ⟨v, vs, rfl, rv, rs⟩ := r.uncons
    cases d with
    | tup l =>
      simp only [keysL] at e
      cases e1 : keysD l with
      | none => rw [e1] at e; cases e
      | some k =>
        rw [e1] at e
        cases e2 : keysL ds with
        | none => rw [e2] at e; cases e
        | some ks' =>
          rw [e2] at e; cases e
          obtain ⟨h1, h2⟩ := keysL_at e2 rs
          refine ⟨by simp [h1], fun i v' hv => ?_⟩
          cases i with
          | zero =>
            simp at hv; subst hv
            rw [Rep] at rv
            obtain ⟨b, us, rfl, hb, hr⟩ := rv
            rw [keys_are e1 hr] at hb
            exact ⟨b, k, rfl, rfl, hb⟩
          | succ i =>
            obtain ⟨b, k', a1, a2, a3⟩ := h2 i v' (by simpa using hv)
            exact ⟨b, k', a1, by simpa using a2, a3⟩
    | _ => cases e
noncomputable def lenSetD : D → Option (Kd × D)
  | .lst xs => match keysL xs with
    | some ks => if xs.length < 4000 then some (.fz, .int (ST.dd ks).length) else none
    | none => none
  | _ => none
noncomputable def lenSetR : R → R
  | .ok _ d => toR (lenSetD d)
  | r => r
noncomputable def eLenSet (f : Ev → R) (ev : Ev) : R := lenSetR (f ev)
variable {F0 H0 : Hp} {Ψ : Psi}
theorem v_lenset {e : Expr} {f : Ev → R} {p p2 pos pos2 : Pos} (hc : X.calm = true) (hu : X.A.units + 100 < cLine) (hm : X.mg "len" = none) (hs : X.mg "set" = none) (he : VE X F0 H0 Ψ e f)
    (hg : Gl X "len" := by rfl) (hg2 : Gl X "set" := by rfl)
    (h1 : starEach [e] X.env = (false, eval e X.env) :: starEach [] X.env := by rfl)
    (h2 : starEach [.Call (.Name "set" p2) [e] [] pos2] X.env = (false, eval (.Call (.Name "set" p2) [e] [] pos2) X.env) :: starEach [] X.env := by rfl) :
    VE X F0 H0 Ψ (.Call (.Name "len" p) [.Call (.Name "set" p2) [e] [] pos2] [] pos) (eLenSet f) :=
  (pe_callB call_lenS hg hm PySem.boot_len (pa_cons (pe_callTy (call_setR hc (by omega)) hg2 hs (by rfl) (pa_cons he pa_nil h1) (by decide) (by decide) h1) pa_nil h2) (by decide) (by decide) h2).mono fun σ H Q h => by
    obtain ⟨F, ev, fi, m⟩ := h
    refine ⟨F, ev, fi, ?_⟩
    simp only [eLenSet] at m
    cases q1 : f ev with
    | no => rw [q1] at m; exact m
    | ex C => rw [q1] at m; exact m
    | ok k d =>
      rw [q1] at m
      intro F1 x H1 p1
      have m : match toR (lenSetD d) with
        | .ok k d => ∀ F' v H', Post X.K F H k d F' v H' → Q v H'
        | .ex C => ∀ F' H', Step F0 H0 F' H' → Ψ C H'
        | .no => False := m
      cases d with
      | lst xs =>
        simp only [lenSetD] at m
        cases e1 : keysL xs with
        | none => rw [e1] at m; exact m.elim
        | some ks =>
          rw [e1] at m
          dsimp only at m
          by_cases hb : xs.length < 4000
          · rw [if_pos hb] at m
            obtain ⟨a, vs, rfl, ha, hr⟩ := p1.val.rd.lst p1.st.sub
            obtain ⟨g1, g2⟩ := keysL_at e1 hr
            refine ⟨a, vs, ks, rfl, SqL.of ha, g1, by rw [← hr.length]; exact hb, fun i v hv => ?_, fun pp hp => ?_⟩
            · obtain ⟨b, k', a1, a2, a3⟩ := g2 i v hv
              exact ⟨b, k', a1, a2, p1.st.sub _ _ a3⟩
            · have up : Same H1 (upd H1 pp (.ext (SetLen pp (ST.dd ks).length))) := fun b u e => by
                rw [upd_ne]; exact e
                rintro rfl; rw [hp] at e; cases e
              have hd := ST.dd_snocs ks
              have hxl : xs.length = ks.length := by rw [hr.length]; exact g1
              exact ⟨pp, _, rfl, upd_same, by omega, m F1 _ _ ⟨p1.st.trans ⟨.refl _, p1.st.sub.trans up, up, fun _ _ e => .inl e⟩, by rw [Val, Rep]⟩⟩
          · rw [if_neg hb] at m; exact m.elim
      | _ => exact m.elim
end
end L3
set_option Elab.async false
set_option linter.all false
set_option maxRecDepth 100000
namespace L2
open PySem PySem.Spec PyProof.Rows
section
variable {X : Cx} {a b c d : Expr} {ta tb tc td : TE} {pos : Pos}
noncomputable def tChain3 (r r' r'' : R2) (ta tb tc td : TE) : TE := fun σ H Q => ta σ H fun x H1 => tb σ H1 fun y H2 => r x y H2 fun z H3 => ∃ k, z = .bl k ∧
  (if k = true then tc σ H3 fun y' H4 => r' y y' H4 fun z' H5 => ∃ k', z' = .bl k' ∧ (if k' = true then td σ H5 fun w' H6 => r'' y' w' H6 Q else Q (.bl false) H5) else Q (.bl false) H3)
theorem pt_chain3 {op op' op'' : CmpOp} {r r' r'' : R2} (ho : OpR X (compareOp op) r) (ho' : OpR X (compareOp op') r') (ho'' : OpR X (compareOp op'') r'') (ha : PE X a ta) (hb : PE X b tb) (hc : PE X c tc) (hd : PE X d td)
    (hm : lastMarks [op, op', op''] [b, c, d] = false := by with_unfolding_all rfl) : PT X (.Compare a [op, op', op''] [b, c, d] pos) (tTest (tChain3 r r' r'' ta tb tc td)) := by
  intro pins s σ H Q I h
  refine isTrue_chain (thn (ha pins s σ H _ I h) fun v s1 ⟨x, H1, I1, r1, q1⟩ => test_link (thn (hb pins s1 σ H1 _ I1 q1) fun u s2 ⟨y, H2, I2, r2, q2⟩ =>
    thn (ho pins s2 σ H2 x y v u _ I2 r1 r2 q2) fun d1 s3 ⟨z, H3, I3, r3, k, e, q3⟩ => ?_)) hm
  subst e
  cases r3
  refine wpAny_truthy_bool ?_
  cases k with
  | false =>
    obtain ⟨k', e', q'⟩ := q3
    cases e'
    exact ite_ff ⟨H3, I3, q'⟩
  | true =>
    refine ite_tt (test_link (thn (hc pins s3 σ H3 _ I3 q3) fun u' s4 ⟨y', H4, I4, r4, q4⟩ => thn (ho' pins s4 σ H4 y y' u u' _ I4 r2 r4 q4) fun d2 s5 ⟨z', H5, I5, r5, k', e', q5⟩ => ?_))
    subst e'
    cases r5
    refine wpAny_truthy_bool ?_
    cases k' with
    | false =>
      obtain ⟨k2, e2, q'⟩ := q5
      cases e2
      exact ite_ff ⟨H5, I5, q'⟩
    | true =>
      refine ite_tt (test_last (thn (hd pins s5 σ H5 _ I5 q5) fun w' s6 ⟨z2, H6, I6, r6, q6⟩ => thn (ho'' pins s6 σ H6 y' z2 u' w' _ I6 r4 r6 q6) fun d' s7 ⟨z3, H7, I7, r7, k3, e3, q7⟩ => ?_))
      subst e3
      cases r7
      exact wpAny_truthy_bool ⟨H7, I7, q7⟩
end
end L2
namespace L3
open PySem L2
section
variable {X : Cx} {K : PySem.W.Frag} {F0 H0 F H F' H' : Hp} {Ψ : Psi} {σ : St} {ev : Ev}
noncomputable def chn3R (g g' g'' : G2) (r1 r2 r3 r4 : R) : R := match r1 with
  | .ok _ a => match r2 with
    | .ok _ b => match g a b with
      | some (_, .bl t) => if t then chnR g' g'' r2 r3 r4 else .ok .fz (.bl false)
      | _ => .no
    | r => r
  | r => r
noncomputable def eChain3 (g g' g'' : G2) (f1 f2 f3 f4 : Ev → R) (ev : Ev) : R := chn3R g g' g'' (f1 ev) (f2 ev) (f3 ev) (f4 ev)
theorem tChain3_of {r r' r'' : R2} {g g' g'' : G2} {f1 f2 f3 f4 : Ev → R} {Q : VK} (ho : OkOp K r g) (ho' : OkOp K r' g') (ho'' : OkOp K r'' g'') (h : tV K F0 H0 Ψ (eChain3 g g' g'' f1 f2 f3 f4) σ H Q) : tChain3 r r' r'' (tV K F0 H0 Ψ f1) (tV K F0 H0 Ψ f2) (tV K F0 H0 Ψ f3) (tV K F0 H0 Ψ f4) σ H Q := by
  obtain ⟨F, ev, fi, m⟩ := h
  refine ⟨F, ev, fi, ?_⟩
  simp only [eChain3] at m
  cases h1 : f1 ev with
  | no => rw [h1] at m; exact m
  | ex C => rw [h1] at m; exact m
  | ok k1 d1 =>
    rw [h1] at m
    intro F1 x H1 p1
    refine ⟨F1, ev, fi.later p1.st, ?_⟩
    cases h2 : f2 ev with
    | no => rw [h2] at m; exact m
    | ex C => rw [h2] at m; exact m
    | ok k2 d2 =>
      rw [h2] at m
      intro F2 y H2 p2
      simp only [chn3R] at m
      have s12 := p1.st.trans p2.st
      cases e : g d1 d2 with
      | none => rw [e] at m; exact m.elim
      | some z =>
        obtain ⟨k, d⟩ := z
        rw [e] at m
        cases d with
        | bl t =>
          refine ho F2 H2 d1 d2 x y k (.bl t) _ p2.st.sub (p1.val.rd.later p2.st) p2.val.rd e fun F3 v3 H3 p3 => ⟨t, p3.val.rd.bl, ?_⟩
          have s3 := s12.trans p3.st
          cases t with
          | false =>
            rw [if_neg Bool.false_ne_true]
            exact m F3 _ H3 ⟨s3, by rw [Val, Rep]⟩
          | true =>
            rw [if_pos rfl]
            refine ⟨F3, ev, fi.later s3, ?_⟩
            have m : match chnR g' g'' (.ok k2 d2) (f3 ev) (f4 ev) with
              | .ok k d => ∀ F' v H', Post K F H k d F' v H' → Q v H'
              | .ex C => ∀ F' H', Step F0 H0 F' H' → Ψ C H'
              | .no => False := m
            cases h3 : f3 ev with
            | no => rw [h3] at m; exact m
            | ex C => rw [h3] at m; exact m
            | ok k4 d4 =>
              rw [h3] at m
              intro F4 y' H4 p4
              have s4 := s3.trans p4.st
              simp only [chnR] at m
              cases e' : g' d2 d4 with
              | none => rw [e'] at m; exact m.elim
              | some z =>
                obtain ⟨k5, d5⟩ := z
                rw [e'] at m
                cases d5 with
                | bl t' =>
                  refine ho' F4 H4 d2 d4 y y' k5 (.bl t') _ p4.st.sub ((p2.val.rd.later p3.st).later p4.st) p4.val.rd e' fun F5 v5 H5 p5 => ⟨t', p5.val.rd.bl, ?_⟩
                  have s5 := s4.trans p5.st
                  cases t' with
                  | false =>
                    rw [if_neg Bool.false_ne_true]
                    exact m F5 _ H5 ⟨s5, by rw [Val, Rep]⟩
                  | true =>
                    rw [if_pos rfl]
                    refine ⟨F5, ev, fi.later s5, ?_⟩
                    have m : match op2 g'' (.ok k4 d4) (f4 ev) with
                      | .ok k d => ∀ F' v H', Post K F H k d F' v H' → Q v H'
                      | .ex C => ∀ F' H', Step F0 H0 F' H' → Ψ C H'
                      | .no => False := m
                    cases h4 : f4 ev with
                    | no => rw [h4] at m; exact m
                    | ex C => rw [h4] at m; exact m
                    | ok k6 d6 =>
                      rw [h4] at m
                      intro F6 w' H6 p6
                      have m : match toR (g'' d4 d6) with
                        | .ok k d => ∀ F' v H', Post K F H k d F' v H' → Q v H'
                        | .ex C => ∀ F' H', Step F0 H0 F' H' → Ψ C H'
                        | .no => False := m
                      cases e'' : g'' d4 d6 with
                      | none => rw [e''] at m; exact m.elim
                      | some z =>
                        obtain ⟨k7, d7⟩ := z
                        rw [e''] at m
                        have s6 := s5.trans p6.st
                        exact ho'' F6 H6 d4 d6 y' w' k7 d7 Q p6.st.sub ((p4.val.rd.later p5.st).later p6.st) p6.val.rd e'' fun F7 v7 H7 p7 => m F7 v7 H7 ⟨s6.trans p7.st, p7.val.early s6.keep⟩
                | _ => exact m.elim
        | _ => exact m.elim
theorem vt_chain3 {a b c d : Expr} {op op' op'' : CmpOp} {g g' g'' : G2} {f1 f2 f3 f4 : Ev → R} {pos : Pos} (hc : CmpOk X op g) (hc' : CmpOk X op' g') (hc'' : CmpOk X op'' g'') (ha : VE X F0 H0 Ψ a f1) (hb : VE X F0 H0 Ψ b f2) (hd : VE X F0 H0 Ψ c f3) (he : VE X F0 H0 Ψ d f4) (hm : lastMarks [op, op', op''] [b, c, d] = false := by with_unfolding_all rfl) :
    VT X F0 H0 Ψ (.Compare a [op, op', op''] [b, c, d] pos) (eChain3 g g' g'' f1 f2 f3 f4) := let ⟨_, ho, hg⟩ := hc; let ⟨_, ho', hg'⟩ := hc'; let ⟨_, ho'', hg''⟩ := hc''; (pt_chain3 ho ho' ho'' ha hb hd he hm).mono fun σ H Q h => by
    obtain ⟨F, ev, fi, m⟩ := h
    exact tChain3_of (K := X.K) (F0 := F0) (H0 := H0) (Ψ := Ψ) (f1 := f1) (f2 := f2) (f3 := f3) (f4 := f4) hg hg' hg'' (Q := fun x H' => ∃ k, x = .bl k ∧ Q k H') (by
      refine ⟨F, ev, fi, ?_⟩
      cases q : eChain3 g g' g'' f1 f2 f3 f4 ev with
      | no => rw [q] at m; exact m
      | ex C => rw [q] at m; exact m
      | ok k d =>
        rw [q] at m
        intro F' v H' p
        cases d with
        | bl b => exact ⟨b, p.val.rd.bl, m F' H' p.st⟩
        | _ => exact m.elim)
end
end L3
set_option Elab.async false
set_option linter.all false
set_option maxRecDepth 100000
namespace L2
open PySem PySem.Spec PyProof.Rows
theorem turn_long {P : Program} {w : World} {K : PySem.W.Frag} {tg : Expr} (it : Addr) (lo : Int) : Turn P w K tg (Itr lo 0) [it] it (fun i h => ∃ x left step, IsLongIter h it x left step ∧ left ≤ 0) where
  mem := by simp
  obj := fun i h st b hb => by
    have e : b = it := by simpa using hb
    subst e
    obtain ⟨x, l, sp, st, _⟩ := st
    exact ⟨_, st, fun v z => by cases z⟩
  keep := fun i h h' st k => by
    obtain ⟨x, l, sp, st, hl⟩ := st
    exact ⟨x, l, sp, k it (by simp) _ st, hl⟩
  item := by
    intro X hP hw hK hc i pins s σ H E I hf st hg
    have : i < 0 := hg
    omega
  done := by
    intro X hP hw hK hc i pins s σ H E I hf st hg
    subst hP hw hK
    obtain ⟨x, l, sp, st, hl⟩ := st
    obtain ⟨f0, f1, f2, f3, f4, f5⟩ := hf it (by simp)
    exact wpAny_pyNext_long_end (I.ok.hd hc) st hl fun h' eb => ⟨rfl, I.turned (t' := s.toks) (fun b o hb e => eb b o hb e) f0 f1 f3 f4 f5⟩
  self := fun _ _ _ _ _ st h => by
    obtain ⟨x, l, sp, st, hl⟩ := st
    exact wpAny_pyIter_longiter st h
section
variable {X : Cx} {tg : Expr}
noncomputable def iRngN (ta : TA) : TI := fun σ H R => ta σ H fun vs H1 => ∃ j : Int, vs = [.int j] ∧ j < -(2 ^ 62) ∧ R (Itr 0 0) H1
theorem pi_rangeN {a : Expr} {ta : TA} {p pos : Pos} (hg : Gl X "range") (hm : X.mg "range" = none) (ha : PA X [a] ta) (hs : starEach [a] X.env = [(false, eval a X.env)] := by rfl) : PI X tg (.Call (.Name "range" p) [a] [] pos) (iRngN ta) := by
  intro pins s σ H R I h
  refine Call_ (ld_blt I hg hm boot_range (PyProof.Rows.callWith_type1 (thn (ha pos pins s σ H _ I h) fun us s1 ⟨vs, H1, I1, r1, q1⟩ => ?_) hs rfl))
  obtain ⟨j, e, hj, q⟩ := q1
  subst e
  cases r1 with
  | cons r rr =>
    cases rr
    obtain ⟨t, rfl⟩ := r
    refine call_range_1 ?_
    have sz : Builtin.Range.rangeSize 0 j 1 = 0 := by rw [rangeSize_one, if_neg (by omega)]
    cases hsm : Builtin.Range.small 0 j 1 with
    | true =>
      refine wpAny_pyIter_range (IsRange.new ..) hsm ?_
      have I2 := I1.kept (t' := s1.toks + 2) (h' := s1.heap.push { cls := .type "range", data := .fields #[.int 0 s1.toks, .int j t, .int 1 (s1.toks + 1)] }) fun b o e => Heap.get?_push_of_some _ e
      refine ⟨_, [_], _, _, H1, rfl, I2.kept (t' := s1.toks + 2) fun b o e => Heap.get?_push_of_some _ e, turn_range _ 0 0, ?_, fun b hb => ?_, q⟩
      · rw [sz]
        exact Heap.get?_push_size _ rfl
      · have e := List.mem_singleton.1 hb
        subst e
        exact I2.fpOk (Nat.le_refl _) (I2.hok.fresh (Nat.le_refl _))
    | false =>
      refine wpAny_pyIter_longrange (IsRange.new ..) hsm ?_
      have I2 := I1.kept (t' := s1.toks + 2) (h' := s1.heap.push { cls := .type "range", data := .fields #[.int 0 s1.toks, .int j t, .int 1 (s1.toks + 1)] }) fun b o e => Heap.get?_push_of_some _ e
      refine ⟨_, [_], _, _, H1, rfl, I2.kept (t' := s1.toks + 2) fun b o e => Heap.get?_push_of_some _ e, turn_long _ 0, ?_, fun b hb => ?_, q⟩
      · rw [sz]
        exact ⟨_, _, _, Heap.get?_push_size _ rfl, Int.le_refl _⟩
      · have e := List.mem_singleton.1 hb
        subst e
        exact I2.fpOk (Nat.le_refl _) (I2.hok.fresh (Nat.le_refl _))
theorem PI.or {g e : Expr} {t t' : TI} (h : PI X g e t) (h' : PI X g e t') : PI X g e (fun σ H R => t σ H R ∨ t' σ H R) := fun pins s σ H R I q => by
  rcases q with q | q
  · exact h pins s σ H R I q
  · exact h' pins s σ H R I q
end
end L2
namespace L3
open PySem L2
section
variable {X : Cx} {F0 H0 : Hp} {Ψ : Psi} {tg a : Expr} {fs : Ev → RA} {pos : Pos}
noncomputable def rngW : RA → RI
  | .ok [(_, .int j)] => if j < 2 ^ 62 then .ok (rangeD 0 j.toNat) else .no
  | .ex C => .ex C
  | _ => .no
noncomputable def iRngW (f : Ev → RA) (ev : Ev) : RI := rngW (f ev)
theorem vi_rngW {p : Pos} (hm : X.mg "range" = none) (ha : VA X F0 H0 Ψ [a] fs) (hg : Gl X "range" := by rfl) (hs : starEach [a] X.env = [(false, eval a X.env)] := by rfl) : VI X F0 H0 Ψ tg (.Call (.Name "range" p) [a] [] pos) (iRngW fs) :=
  ((pi_range1 hg hm ha hs).or (pi_rangeN hg hm ha hs)).mono fun σ H R h => by
    obtain ⟨F, ev, fi, m⟩ := h
    unfold iRngW at m
    cases h1 : fs ev with
    | no => rw [h1] at m; exact m.elim
    | ex C => rw [h1] at m; exact .inl ⟨F, ev, fi, by rw [h1]; exact m⟩
    | ok l =>
      rw [h1] at m
      unfold rngW at m
      split at m
      · rename_i ds hm'
        split at hm'
        · rename_i k j he
          cases he
          split at hm'
          · rename_i hb
            cases hm'
            by_cases hlow : -(2 ^ 62) ≤ j
            · left
              refine iRng1_of ⟨F, ev, fi, ?_⟩
              dsimp only
              rw [h1]
              simp only [rng1R, if_pos (show -(2 ^ 62) ≤ j ∧ j < 2 ^ 62 from ⟨hlow, hb⟩)]
              exact m
            · right
              refine ⟨F, ev, fi, ?_⟩
              rw [h1]
              intro F1 vs H1 s va
              obtain ⟨v, r, rfl, _, hv, hr⟩ := va
              obtain rfl : r = [] := hr
              refine ⟨j, by rw [hv.rd.int], by omega, ?_⟩
              have : j.toNat = 0 := by omega
              rw [this] at m
              exact m F1 H1 _ s yields_range
          · cases hm'
        · cases hm'
        · cases hm'
      · rename_i C hm'
        split at hm' <;> first | (split at hm' <;> cases hm') | cases hm'
        rename_i he; cases he
      · exact m.elim
end
end L3
namespace L3
open PySem L2
theorem v_glob {X : Cx} {F0 H0 : Hp} {Ψ : Psi} {x : Str} {i : Int} {pos : Pos} (hm : ∃ t, X.mg x = some (.int i t)) (hg : Gl X x := by rfl) (hd : (x == ("__debug__" : Str)) = false := by decide) : VE X F0 H0 Ψ (.Name x pos) (conR (.int i)) := by
  obtain ⟨t, h⟩ := hm
  exact (pe_glob (v := .int i) hg h ⟨t, rfl⟩ hd).mono fun _ _ _ h => tC_of (by rw [Rep]) h
end L3
set_option Elab.async false
set_option linter.all false
set_option maxRecDepth 100000
namespace L3
open PySem L2
section
variable {X : Cx} {K : PySem.W.Frag} {F0 H0 : Hp} {Ψ : Psi} {σ : St} {H : Hp}
variable {a b c : Expr} {f1 f2 f3 : Ev → R} {apos cpos : Pos}
end
end L3
set_option Elab.async false
set_option linter.all false
set_option maxRecDepth 100000
namespace L3
open PySem L2
section
variable {X : Cx} {K : PySem.W.Frag} {F0 H0 : Hp} {Ψ : Psi} {σ : St} {H : Hp}
variable {c : Expr} {f : Ev → R} {g : Ev → Fl} {body : List Stmt} {x y : Str} {p1 p2 pi pos : Pos}
end
end L3
set_option Elab.async false
set_option linter.all false
set_option maxRecDepth 100000
namespace TSrt
open PySem PySem.W PyProof.Rows
section
variable {M : Model} {A : Around} {E : Value → Shared → Prop} {σ : Type}
end
section
variable {M : Model} {A : Around} {E : Value → Shared → Prop}
end
end TSrt
set_option Elab.async false
set_option linter.all false
set_option maxRecDepth 100000
namespace TSrt
open PySem PySem.W PyProof.Rows
section
variable {M : Model} {A : Around} {E : Value → Shared → Prop} {σ : Type}
end
noncomputable def ats (xs : Array Keyed) (i : Nat) : Keyed := (xs[i]?).getD (.none, .none)
noncomputable def Loc (ix : Keyed → Nat) (xs : Array Keyed) (p q : Nat) : Prop := ∀ j, p ≤ j → j < q → p ≤ ix (ats xs j) ∧ ix (ats xs j) < q
section
variable {M : Model} {A : Around} {E : Value → Shared → Prop} {κ : SortKind} {a0 : Array Keyed} {c0 c : Keyed → Keyed → Bool} {ix : Keyed → Nat} {G : Shared → Prop}
end
end TSrt
set_option Elab.async false
set_option linter.all false
set_option maxRecDepth 100000
namespace TSrt
open PySem PySem.W PyProof.Rows
section pure
variable {c : Keyed → Keyed → Bool}
end pure
end TSrt
set_option Elab.async false
set_option linter.all false
set_option maxRecDepth 100000
namespace TSrt
open PySem PySem.W PyProof.Rows
noncomputable def mergeLo' : Array Keyed → Array Keyed → StateT SortSt Sem (Array Keyed) := sortPriv% PySem.Builtin.mergeLo
structure Bd {α : Type} (β : Type) (m : StateT SortSt Sem α) where
  x : StateT SortSt Sem β
  f : β → StateT SortSt Sem α
  h : m = x >>= f
structure It {α : Type} (m : StateT SortSt Sem α) where
  p : Prop
  d : Decidable p
  t : StateT SortSt Sem α
  e : StateT SortSt Sem α
  h : m = @ite _ p d t e
structure Lp {β : Type} (m : StateT SortSt Sem β) where
  lo : Nat
  hi : Nat
  c : β
  f : Nat → β → StateT SortSt Sem (ForInStep β)
  h : m = forIn [lo:hi] c f
section
noncomputable abbrev U0 := Array Keyed × Nat × Nat × Nat
noncomputable abbrev U1 := Array Keyed × Nat × Nat × Nat × Nat
noncomputable abbrev U2 := Array Keyed × Nat × Nat × Nat × Nat × Nat
noncomputable abbrev T0 := Option (Array Keyed) × U0
noncomputable abbrev T1 := Option (Array Keyed) × U1
noncomputable abbrev T2 := Option (Array Keyed) × U2
variable (a b : Array Keyed)
noncomputable def lo1 : Bd Unit (mergeLo' a b) := ⟨_, _, rfl⟩
noncomputable def lo2 : Bd Keyed ((lo1 a b).f ()) := ⟨_, _, rfl⟩
noncomputable def lo3 (v : Keyed) : It ((lo2 a b).f v) := ⟨_, _, _, _, rfl⟩
noncomputable def lo4 (v : Keyed) : It (lo3 a b v).e := ⟨_, _, _, _, rfl⟩
noncomputable def lo5 (v : Keyed) : Bd SortSt (lo4 a b v).e := ⟨_, _, rfl⟩
noncomputable def lo6 (v : Keyed) (st : SortSt) : Bd T0 ((lo5 a b v).f st) := ⟨_, _, rfl⟩
noncomputable def lo7 (v : Keyed) (st : SortSt) : Lp (lo6 a b v st).x := ⟨_, _, _, _, rfl⟩
noncomputable def loO : {f : Nat → T0 → StateT SortSt Sem (ForInStep T0) // ∀ v st, (lo7 a b v st).f = f} := ⟨_, fun _ _ => rfl⟩
section
variable (j : Nat) (t : T0)
noncomputable def oA : Bd T1 ((loO a b).1 j t) := ⟨_, _, rfl⟩
noncomputable def oB : Lp (oA a b j t).x := ⟨_, _, _, _, rfl⟩
noncomputable def oC (d : U1) : Bd Unit ((oA a b j t).f (none, d)) := ⟨_, _, rfl⟩
noncomputable def oD (d : U1) : Bd T2 ((oC a b j t d).f ()) := ⟨_, _, rfl⟩
noncomputable def oE (d : U1) : Lp (oD a b j t d).x := ⟨_, _, _, _, rfl⟩
end
noncomputable def loB1 (t : T0) : {f : Nat → T1 → StateT SortSt Sem (ForInStep T1) // ∀ j, (oB a b j t).f = f} := ⟨_, fun _ => rfl⟩
noncomputable def loB2 : {f : Nat → T2 → StateT SortSt Sem (ForInStep T2) // ∀ j t d, (oE a b j t d).f = f} := ⟨_, fun _ _ _ => rfl⟩
section
variable (t0 : T0) (i : Nat) (t : T1)
noncomputable def c1 : Bd Keyed ((loB1 a b t0).1 i t) := ⟨_, _, rfl⟩
noncomputable def c2 (x : Keyed) : Bd Keyed ((c1 a b t0 i t).f x) := ⟨_, _, rfl⟩
noncomputable def c3 (x y : Keyed) : Bd (Option Bool) ((c2 a b t0 i t x).f y) := ⟨_, _, rfl⟩
noncomputable def c4 (x y : Keyed) (w : Bool) : It ((c3 a b t0 i t x y).f (some w)) := ⟨_, _, _, _, rfl⟩
noncomputable def c5 (x y : Keyed) (w : Bool) : Bd Keyed (c4 a b t0 i t x y w).t := ⟨_, _, rfl⟩
noncomputable def c6 (x y : Keyed) (w : Bool) (z : Keyed) : It ((c5 a b t0 i t x y w).f z) := ⟨_, _, _, _, rfl⟩
noncomputable def c7 (x y : Keyed) (w : Bool) (z : Keyed) : It (c6 a b t0 i t x y w z).e := ⟨_, _, _, _, rfl⟩
noncomputable def c8 (x y : Keyed) (w : Bool) : Bd Keyed (c4 a b t0 i t x y w).e := ⟨_, _, rfl⟩
noncomputable def c9 (x y : Keyed) (w : Bool) (z : Keyed) : It ((c8 a b t0 i t x y w).f z) := ⟨_, _, _, _, rfl⟩
noncomputable def c10 (x y : Keyed) (w : Bool) (z : Keyed) : It (c9 a b t0 i t x y w z).e := ⟨_, _, _, _, rfl⟩
end
section
variable (i : Nat) (r : Option (Array Keyed)) (out : Array Keyed) (ia ib ac bc mg : Nat)
noncomputable def g0 : It ((loB2 a b).1 i (r, out, ia, ib, mg, ac, bc)) := ⟨_, _, _, _, rfl⟩
noncomputable def gK : {K : Nat → StateT SortSt Sem (ForInStep T2) // ∀ mg, (g0 a b i r out ia ib ac bc mg).e = K mg} := ⟨_, fun _ => rfl⟩
noncomputable def g1 : Bd Unit ((gK a b i r out ia ib ac bc).1 mg) := ⟨_, _, rfl⟩
noncomputable def g2 : Bd Keyed ((g1 a b i r out ia ib ac bc mg).f ()) := ⟨_, _, rfl⟩
noncomputable def g3 (x : Keyed) : Bd (Option Nat) ((g2 a b i r out ia ib ac bc mg).f x) := ⟨_, _, rfl⟩
noncomputable def g4 (x : Keyed) (k : Nat) : It ((g3 a b i r out ia ib ac bc mg x).f (some k)) := ⟨_, _, _, _, rfl⟩
end
section
variable (i : Nat) (r : Option (Array Keyed)) (ib ac bc mg : Nat) (x : Keyed) (k : Nat)
noncomputable def J1 : {K : Array Keyed → Nat → StateT SortSt Sem (ForInStep T2) // ∀ out ia, (g4 a b i r out ia ib ac bc mg x k).e = K out ia} := ⟨_, fun _ _ => rfl⟩
noncomputable def h1 (out : Array Keyed) (ia : Nat) : Bd Keyed ((J1 a b i r ib ac bc mg x k).1 out ia) := ⟨_, _, rfl⟩
noncomputable def h2 (out : Array Keyed) (ia : Nat) (y : Keyed) : It ((h1 a b i r ib ac bc mg x k out ia).f y) := ⟨_, _, _, _, rfl⟩
noncomputable def K3 (ia : Nat) : {K : Array Keyed → Nat → StateT SortSt Sem (ForInStep T2) // ∀ out y, (h2 a b i r ib ac bc mg x k out ia y).e = K (out.push y) (ib + 1)} := by
  refine ⟨?K, ?_⟩
  rotate_left
  · intro out y
    dsimp only [h2]
    generalize out.push y = o
    generalize ib + 1 = j
    rfl
section
variable (ia : Nat) (o : Array Keyed) (j : Nat)
noncomputable def k2 : Bd Keyed ((K3 a b i r ib ac bc mg x k ia).1 o j) := ⟨_, _, rfl⟩
noncomputable def k3 (z : Keyed) : Bd (Option Nat) ((k2 a b i r ib ac bc mg x k ia o j).f z) := ⟨_, _, rfl⟩
noncomputable def k4 (z : Keyed) (l : Nat) : It ((k3 a b i r ib ac bc mg x k ia o j z).f (some l)) := ⟨_, _, _, _, rfl⟩
noncomputable def k5 (z : Keyed) (l : Nat) : It (k4 a b i r ib ac bc mg x k ia o j z l).t := ⟨_, _, _, _, rfl⟩
end
noncomputable def K2 (ia : Nat) (z : Keyed) (l : Nat) : {K : Array Keyed → Nat → StateT SortSt Sem (ForInStep T2) // ∀ o j, (k4 a b i r ib ac bc mg x k ia o j z l).e = K o j} := ⟨_, fun _ _ => rfl⟩
noncomputable def q1 (ia : Nat) (z : Keyed) (l : Nat) (o : Array Keyed) (j : Nat) : Bd Keyed ((K2 a b i r ib ac bc mg x k ia z l).1 o j) := ⟨_, _, rfl⟩
noncomputable def q2 (ia : Nat) (z : Keyed) (l : Nat) (o : Array Keyed) (j : Nat) (w : Keyed) : It ((q1 a b i r ib ac bc mg x k ia z l o j).f w) := ⟨_, _, _, _, rfl⟩
noncomputable def q3 (ia : Nat) (z : Keyed) (l : Nat) (o : Array Keyed) (j : Nat) (w : Keyed) : It (q2 a b i r ib ac bc mg x k ia z l o j w).e := ⟨_, _, _, _, rfl⟩
end
end
noncomputable def mergeHi' : Array Keyed → Array Keyed → StateT SortSt Sem (Array Keyed) := sortPriv% PySem.Builtin.mergeHi
section
variable {M : Model} {A : Around} {E : Value → Shared → Prop} {κ : SortKind} {a0 : Array Keyed} {c0 c : Keyed → Keyed → Bool} {ix : Keyed → Nat} {G : Shared → Prop}
theorem It.go {α : Type} {m : StateT SortSt Sem α} (d : It m) {Q : α → SortSt → Shared → Prop} {st : SortSt} {s : Shared} (h1 : d.p → kasC M A E d.t Q st s) (h2 : ¬ d.p → kasC M A E d.e Q st s) : kasC M A E m Q st s := by
  rw [d.h]; split
  · rename_i z; exact h1 z
  · rename_i z; exact h2 z
section
variable {a b : Array Keyed} {st : SortSt} {s : Shared}
end
end
end TSrt
set_option Elab.async false
set_option linter.all false
set_option maxRecDepth 100000
namespace TSrt
open PySem PySem.W PyProof.Rows
section pure
variable {c : Keyed → Keyed → Bool}
end pure
noncomputable abbrev V0 := Nat × Nat × Array Keyed × Nat
noncomputable abbrev V1 := Nat × Nat × Array Keyed × Nat × Nat
noncomputable abbrev V2 := Nat × Nat × Array Keyed × Nat × Nat × Nat
noncomputable abbrev W0 := Option (Array Keyed) × V0
noncomputable abbrev W1 := Option (Array Keyed) × V1
noncomputable abbrev W2 := Option (Array Keyed) × V2
section
variable (a b : Array Keyed)
noncomputable def hi1 : Bd Unit (mergeHi' a b) := ⟨_, _, rfl⟩
noncomputable def hi2 : Bd Keyed ((hi1 a b).f ()) := ⟨_, _, rfl⟩
noncomputable def hi3 (v : Keyed) : It ((hi2 a b).f v) := ⟨_, _, _, _, rfl⟩
noncomputable def hi4 (v : Keyed) : It (hi3 a b v).e := ⟨_, _, _, _, rfl⟩
noncomputable def hi5 (v : Keyed) : Bd SortSt (hi4 a b v).e := ⟨_, _, rfl⟩
noncomputable def hi6 (v : Keyed) (st : SortSt) : Bd W0 ((hi5 a b v).f st) := ⟨_, _, rfl⟩
noncomputable def hi7 (v : Keyed) (st : SortSt) : Lp (hi6 a b v st).x := ⟨_, _, _, _, rfl⟩
noncomputable def hiO : {f : Nat → W0 → StateT SortSt Sem (ForInStep W0) // ∀ v st, (hi7 a b v st).f = f} := ⟨_, fun _ _ => rfl⟩
section
variable (j : Nat) (t : W0)
noncomputable def pA : Bd W1 ((hiO a b).1 j t) := ⟨_, _, rfl⟩
noncomputable def pB : Lp (pA a b j t).x := ⟨_, _, _, _, rfl⟩
noncomputable def pC (d : V1) : Bd Unit ((pA a b j t).f (none, d)) := ⟨_, _, rfl⟩
noncomputable def pD (d : V1) : Bd W2 ((pC a b j t d).f ()) := ⟨_, _, rfl⟩
noncomputable def pE (d : V1) : Lp (pD a b j t d).x := ⟨_, _, _, _, rfl⟩
end
noncomputable def hiB1 (t : W0) : {f : Nat → W1 → StateT SortSt Sem (ForInStep W1) // ∀ j, (pB a b j t).f = f} := ⟨_, fun _ => rfl⟩
noncomputable def hiB2 : {f : Nat → W2 → StateT SortSt Sem (ForInStep W2) // ∀ j t d, (pE a b j t d).f = f} := ⟨_, fun _ _ _ => rfl⟩
section
variable (t0 : W0) (i : Nat) (t : W1)
noncomputable def d1 : Bd Keyed ((hiB1 a b t0).1 i t) := ⟨_, _, rfl⟩
noncomputable def d2 (x : Keyed) : Bd Keyed ((d1 a b t0 i t).f x) := ⟨_, _, rfl⟩
noncomputable def d3 (x y : Keyed) : Bd (Option Bool) ((d2 a b t0 i t x).f y) := ⟨_, _, rfl⟩
noncomputable def d4 (x y : Keyed) (w : Bool) : It ((d3 a b t0 i t x y).f (some w)) := ⟨_, _, _, _, rfl⟩
noncomputable def d5 (x y : Keyed) (w : Bool) : Bd Keyed (d4 a b t0 i t x y w).t := ⟨_, _, rfl⟩
noncomputable def d6 (x y : Keyed) (w : Bool) (z : Keyed) : It ((d5 a b t0 i t x y w).f z) := ⟨_, _, _, _, rfl⟩
noncomputable def d7 (x y : Keyed) (w : Bool) (z : Keyed) : It (d6 a b t0 i t x y w z).e := ⟨_, _, _, _, rfl⟩
end
section
variable (i : Nat) (r : Option (Array Keyed)) (na nb : Nat) (out : Array Keyed) (ac bc mg : Nat)
noncomputable def f0 : It ((hiB2 a b).1 i (r, na, nb, out, mg, ac, bc)) := ⟨_, _, _, _, rfl⟩
noncomputable def fK : {K : Nat → StateT SortSt Sem (ForInStep W2) // ∀ mg, (f0 a b i r na nb out ac bc mg).e = K mg} := ⟨_, fun _ => rfl⟩
noncomputable def f1 : Bd Unit ((fK a b i r na nb out ac bc).1 mg) := ⟨_, _, rfl⟩
noncomputable def f2 : Bd Keyed ((f1 a b i r na nb out ac bc mg).f ()) := ⟨_, _, rfl⟩
noncomputable def f3 (x : Keyed) : Bd (Option Nat) ((f2 a b i r na nb out ac bc mg).f x) := ⟨_, _, rfl⟩
noncomputable def f4 (x : Keyed) (k : Nat) : It ((f3 a b i r na nb out ac bc mg x).f (some k)) := ⟨_, _, _, _, rfl⟩
noncomputable def f5 (x : Keyed) (k : Nat) : It (f4 a b i r na nb out ac bc mg x k).t := ⟨_, _, _, _, rfl⟩
end
section
variable (i : Nat) (r : Option (Array Keyed)) (nb ac bc mg : Nat) (x : Keyed) (k : Nat)
noncomputable def JA : {K : Nat → Nat → Array Keyed → StateT SortSt Sem (ForInStep W2) // ∀ na out, (f4 a b i r na nb out ac bc mg x k).e = K (na - k) na out} := by
  refine ⟨?K, ?_⟩
  rotate_left
  · intro na out
    dsimp only [f4]
    generalize na - k = q
    rfl
variable (q : Nat)
noncomputable def e1 (na : Nat) (out : Array Keyed) : Bd Keyed ((JA a b i r nb ac bc mg x k).1 q na out) := ⟨_, _, rfl⟩
noncomputable def e2 (na : Nat) (out : Array Keyed) (y : Keyed) : It ((e1 a b i r nb ac bc mg x k q na out).f y) := ⟨_, _, _, _, rfl⟩
noncomputable def KA (na : Nat) : {K : Nat → Array Keyed → StateT SortSt Sem (ForInStep W2) // ∀ out y, (e2 a b i r nb ac bc mg x k q na out y).e = K (nb - 1) (out.push y)} := by
  refine ⟨?K, ?_⟩
  rotate_left
  · intro out y
    dsimp only [e2]
    generalize out.push y = o
    generalize nb - 1 = j
    rfl
section
variable (na : Nat) (j : Nat) (o : Array Keyed)
noncomputable def m2 : Bd Keyed ((KA a b i r nb ac bc mg x k q na).1 j o) := ⟨_, _, rfl⟩
noncomputable def m3 (z : Keyed) : Bd (Option Nat) ((m2 a b i r nb ac bc mg x k q na j o).f z) := ⟨_, _, rfl⟩
noncomputable def m4 (z : Keyed) (l : Nat) : It ((m3 a b i r nb ac bc mg x k q na j o z).f (some l)) := ⟨_, _, _, _, rfl⟩
end
noncomputable def KB (na : Nat) (z : Keyed) (l : Nat) : {K : Nat → Nat → Array Keyed → StateT SortSt Sem (ForInStep W2) // ∀ j o, (m4 a b i r nb ac bc mg x k q na j o z l).e = K (j - l) j o} := by
  refine ⟨?K, ?_⟩
  rotate_left
  · intro j o
    dsimp only [m4]
    generalize j - l = v
    rfl
variable (v : Nat)
noncomputable def n1 (na : Nat) (z : Keyed) (l : Nat) (j : Nat) (o : Array Keyed) : Bd Keyed ((KB a b i r nb ac bc mg x k q na z l).1 v j o) := ⟨_, _, rfl⟩
noncomputable def n2 (na : Nat) (z : Keyed) (l : Nat) (j : Nat) (o : Array Keyed) (w : Keyed) : It ((n1 a b i r nb ac bc mg x k q v na z l j o).f w) := ⟨_, _, _, _, rfl⟩
noncomputable def n3 (na : Nat) (z : Keyed) (l : Nat) (j : Nat) (o : Array Keyed) (w : Keyed) : It (n2 a b i r nb ac bc mg x k q v na z l j o w).e := ⟨_, _, _, _, rfl⟩
end
end
section
variable {M : Model} {A : Around} {E : Value → Shared → Prop} {κ : SortKind} {a0 : Array Keyed} {c0 c : Keyed → Keyed → Bool} {ix : Keyed → Nat} {G : Shared → Prop} {a b : Array Keyed} {st : SortSt} {s : Shared}
end
end TSrt
set_option Elab.async false
set_option linter.all false
set_option maxRecDepth 100000
namespace TSrt
open PySem PySem.W PyProof.Rows
section
variable {M : Model} {A : Around} {E : Value → Shared → Prop} {κ : SortKind} {a0 : Array Keyed} {c0 c : Keyed → Keyed → Bool} {ix : Keyed → Nat} {G : Shared → Prop}
end
end TSrt
set_option Elab.async false
set_option linter.all false
set_option maxRecDepth 100000
namespace TSrt
open PySem PySem.W PyProof.Rows
noncomputable def two (x : Nat × Nat × Nat) : Nat × Nat := (x.1, x.2.1)
section
variable {M : Model} {A : Around} {E : Value → Shared → Prop} {κ : SortKind} {a0 : Array Keyed} {c0 c : Keyed → Keyed → Bool} {ix : Keyed → Nat} {G : Shared → Prop}
end
end TSrt
set_option Elab.async false
set_option linter.all false
set_option maxRecDepth 100000
namespace TSrt
open PySem PySem.W PyProof.Rows
noncomputable def cN {κ : Type} (lt : κ → κ → Bool) (ks : Nat → κ) (i j : Nat) : Bool := lt (ks i) (ks j) || (!(lt (ks j) (ks i)) && decide (i < j))
noncomputable def srt {κ : Type} (lt : κ → κ → Bool) (ks : Nat → κ) (n : Nat) : List Nat := (List.range n).mergeSort fun i j => !(cN lt ks j i)
section
variable {M : Model} {A : Around} {E : Value → Shared → Prop} {κ : SortKind} {G : Shared → Prop} {κt : Type} {lt : κt → κt → Bool} {ks : Nat → κt} {kvs vs : List Value}
end
end TSrt
set_option Elab.async false
set_option linter.all false
set_option maxRecDepth 100000
namespace TSrt
open PySem PySem.W PyProof.Rows PySem.Calls
section
variable {prog : Program} {w : World} {A : Around} {E : Value → Shared → Prop} {s : Shared} {l q : Addr} {its : List Value} {b : Bool} {ks : Nat → Int}
end
end TSrt
set_option Elab.async false
set_option linter.all false
set_option maxRecDepth 100000
namespace L2
open PySem PySem.Spec PyProof.Rows
section
variable {X : Cx} {pins : List (Addr × Obj)} {σ : St} {H : Hp} {s : Shared} {h' : Heap}
end
end L2
namespace L3
open PySem L2 TSrt
open PyProof.Rows (boot_sorted callWith_kw kws_cons kws_nil Constant_bool)
section
variable {X : Cx} {K : PySem.W.Frag} {F0 H0 : Hp} {Ψ : Psi}
end
end L3
set_option Elab.async false
set_option linter.all false
set_option maxRecDepth 100000
namespace TSrt
open PySem PySem.W PyProof.Rows PySem.Calls
noncomputable def kin : L2.Key → Bool
  | .inl _ => true
  | .inr _ => false
section
variable {prog : Program} {w : World} {A : Around} {s : Shared}
end
end TSrt
set_option Elab.async false
set_option linter.all false
set_option maxRecDepth 100000
namespace L3
open PySem L2 TSrt
section
variable {X : Cx}
variable {F0 H0 : Hp} {Ψ : Psi}
end
end L3
set_option Elab.async false
set_option linter.all false
set_option maxRecDepth 100000
namespace L3
open PySem L2 TSrt
section
variable {X : Cx} {K : PySem.W.Frag} {F0 H0 : Hp} {Ψ : Psi} {σ : St} {H : Hp}
variable {e : Expr} {f : Ev → R} {x : Str} {p apos cpos pos : Pos}
end
end L3
set_option Elab.async false
set_option linter.all false
set_option maxRecDepth 100000
namespace L3
open PySem L2 TSrt
section
variable {X : Cx} {K : PySem.W.Frag} {F0 H0 : Hp} {Ψ : Psi} {σ : St} {H : Hp}
end
section
variable {X : Cx} {F0 H0 : Hp} {Ψ : Psi} {osc scope : Scope} {N : List Str} {target iter elt : Expr} {ifs : List Expr} {pos : Pos} {fi : Ev → RI} {b : B1} {f e : Ev → R}
end
end L3
set_option Elab.async false
set_option linter.all false
set_option maxRecDepth 100000
namespace L3
open PySem L2
section
variable {X : Cx} {F0 H0 : Hp} {g h : Ev → Fl} {st : Stmt} {sts rest : List Stmt} {pos : Pos}
variable {e0 e1 e2 : Expr} {f0 f1 f2 : Ev → R} {x1 : ExprCtx}
end
section
variable {P : Program} {w : World} {K : PySem.W.Frag} {mg : Str → Option Value} {base : Heap}
end
section
variable {X : Cx} {K : PySem.W.Frag} {F0 H0 Fb Hb F H F' H' : Hp} {Ψ : Psi} {i : Nat} {l : List D} {ev : Ev} {σ : St}
variable {k n : Nat} {x y : Str} {φ : List D → R} {p p' pos pos' : Pos} {e : Expr} {es : List Expr} {fs : Ev → RA} {sts body : List Stmt} {h g : Ev → Fl}
variable {ji : Int} {kk : Nat} {q1 q2 q3 q4 q5 apos cpos : Pos}
end
end L3
set_option Elab.async false
set_option linter.all false
set_option maxRecDepth 100000
namespace L3
open PySem L2 PySem.SeqAt
noncomputable def cntD (xs : List D) (b : D) : Option (Kd × D) := match pyL xs, py b with
  | some qs, some p => if p.depth ≤ DEEP then some (.fz, .int ((qs.countP fun q => q.eqv p : Nat) : Int)) else none
  | _, _ => none
section
variable {X : Cx} {F0 H0 : Hp} {Ψ : Psi} {a b : Expr} {f1 f2 : Ev → R} {apos cpos : Pos}
noncomputable def rCnt (K : PySem.W.Frag) : V → List V → Hp → VK → Prop := fun x vs H Q => ∃ xs dy y n, vs = [y] ∧ Rep K H (.lst xs) x ∧ Rep K H dy y ∧ cntD xs dy = some (.fz, .int n) ∧ Q (.int n) H
theorem mt_cnt (hu : X.A.units + 100 < cLine) : MtR X "list.count" (rCnt X.K) := by
  intro pins s σ H x vs v us Q I rx rv h
  obtain ⟨xs, dy, y, n, rfl, hx, hy, e, q⟩ := h
  obtain ⟨u, rfl, ru⟩ := rv.one
  unfold cntD at e
  split at e
  · rename_i qs p e1 e2
    split at e
    · rename_i hd
      have e' : ((qs.countP fun q => q.eqv p : Nat) : Int) = n := by injection e with e; injection e with _ e; injection e
      obtain ⟨as, r1, c1⟩ := hx.reads I rx (show py (.lst xs) = some (.list qs) by rw [py, e1]; rfl)
      obtain ⟨bs, r2, c2⟩ := hy.reads I ru e2
      have c1 : PyData.canLayAll0 qs = true := by simpa [PyData.canLay0] using c1
      cases r1 with
      | list h1 h2 h3 h4 =>
        rename_i l o n' its as'
        obtain ⟨cls, dd, data, sl⟩ := o
        simp only at h2 h3
        subst h2 h3
        refine call_meets PySem.F.slot_list_count ⟨_, h1, rfl⟩ PySem.F.entry_list_count (PySem.F.args_list_count_2 _ _) (list_countAt _ _ _ dd sl u (fun y => PyData.eqv (SeqAt.readOf s.heap y) p)) ⟨h1, ?_, ?_⟩
        · exact items_eqAt h4 r2 c1 c2 (by have := Nat.min_le_right (PyData.depthAll qs) p.depth; unfold DEEP at hd; show _ + 1 + _ < _; first | omega | (simp only [Around.under, Around.units] at *; omega))
        · have ec : ((n'.toList.countP (fun y => PyData.eqv (readOf s.heap y) p) : Nat) : Int) = n := by
            rw [← e', ← readsAll_map qs _ _ c1 h4, List.countP_map]; rfl
          rw [ec]
          exact ⟨.int n, H, I.tok _, ⟨_, rfl⟩, q⟩
    · cases e
  · cases e
end
end L3
set_option Elab.async false
set_option linter.all false
set_option maxRecDepth 100000
namespace L3
open PySem L2
section
variable {X : Cx} {F0 H0 : Hp} {Ψ : Psi} {a b : Expr} {f1 f2 : Ev → R} {p2 pos : Pos}
end
end L3
set_option Elab.async false
set_option linter.all false
set_option maxRecDepth 100000
namespace L3
open PySem L2
section
variable {X : Cx} {F0 H0 : Hp} {Ψ : Psi} {e o : Expr} {es : List Expr} {f : Str} {cs : List Str} {g : Ev → R} {fs : Ev → RA} {pos p apos : Pos}
section
variable {P : Program} {w : World} {K : PySem.W.Frag} {mg : Str → Option Value} {base : Heap}
end
end
section
variable {X : Cx} {F0 H0 : Hp} {x C dx : Addr} {ns : List Str} {fs : List (Ev → R)} {f : Ev → R} {fld sl : Str} {e : Expr} {rest : List Stmt} {p apos pos : Pos}
end
section
variable {P : Program} {w : World} {K : PySem.W.Frag} {mg : Str → Option Value} {base : Heap}
end
section
variable {X : Cx} {F0 H0 : Hp} {Ψ : Psi} {k n : Nat} {c : Str} {ns : List Str} {fs : List (Ev → R)} {dv : List D} {as : Ev → RA} {e : Expr} {es : List Expr} {p pos : Pos}
end
end L3
set_option Elab.async false
set_option linter.all false
set_option maxRecDepth 100000
namespace L3
open PySem L2 PySem.W
section
variable {X : Cx} {C : Addr} {x : Str} {p pos : Pos}
end
section
variable {X : Cx} {F0 H0 : Hp} {Ψ : Psi} {e : Expr} {g : Ev → R} {s : Str} {p p2 pos : Pos} {tab : List (Str × Bool)}
end
section
variable {P : Program} {w : World} {K : PySem.W.Frag} {mg : Str → Option Value} {base : Heap}
end
section
variable {X : Cx} {F0 H0 : Hp} {Ψ : Psi} {k n : Nat} {c : Str} {ns ks : List Str} {fs : List (Ev → R)} {as ka : Ev → RA} {g : Ev → R} {e : Expr} {es : List Expr} {kws : List Keyword} {p pos kpos : Pos} {nm : Option Str}
end
end L3
set_option Elab.async false
set_option linter.all false
set_option maxRecDepth 100000
namespace L3
open PySem L2
section
variable {X : Cx} {F0 H0 : Hp} {Ψ : Psi} {a b e : Expr} {f f1 f2 : Ev → R} {p2 pos pos' : Pos}
end
end L3
set_option Elab.async false
set_option linter.all false
set_option maxRecDepth 100000
namespace L2
open PySem PySem.Spec PyProof.Rows
section
variable {X : Cx}
end
end L2
namespace L3
open PySem L2
section
variable {X : Cx} {F0 H0 : Hp} {Ψ : Psi}
end
end L3
set_option Elab.async false
set_option linter.all false
set_option maxRecDepth 100000
namespace L3
open PySem L2
section
variable {X : Cx} {K : PySem.W.Frag} {F0 H0 Fb Hb F H F' H' : Hp} {Ψ : Psi} {i : Nat} {l : List D} {ev : Ev} {σ : St}
variable {k n : Nat} {x y : Str} {φ : List D → R} {p p' pos pos' : Pos} {e : Expr} {es : List Expr} {fs : Ev → RA} {sts body : List Stmt} {h g : Ev → Fl}
variable {ji : Int} {kk : Nat} {q1 q2 q3 q4 q5 apos cpos : Pos}
end
section
variable {X : Cx} {K : PySem.W.Frag}
open PySem
theorem vals_ints : ∀ {ns : List Int} {us : List Value}, Vals (ns.map V.int) us → ∃ ps : List (Int × Tok), us = ps.map (fun p => .int p.1 p.2) ∧ ps.map (·.1) = ns
  | [], _, r => by cases r; exact ⟨[], rfl, rfl⟩
  | n :: ns, _, r => by
    cases r with
    | cons r1 r2 =>
      obtain ⟨t, rfl⟩ := r1
      obtain ⟨ps, rfl, h⟩ := vals_ints r2
      exact ⟨(n, t) :: ps, rfl, by rw [List.map_cons, h]⟩
variable {F0 H0 : Hp} {Ψ : Psi} {a b c e : Expr} {es : List Expr} {f f1 f2 f3 : Ev → R} {fs : Ev → RA} {pos p : Pos}
noncomputable def intD : GN
  | [.int i] => some (.fz, .int i)
  | [.bl k] => some (.fz, .int (if k then 1 else 0))
  | _ => none
theorem ok_intD : OkCall K (fun xs H Q => (∃ i, xs = [.int i] ∧ Q (.int i) H) ∨ ∃ k, xs = [.bl k] ∧ Q (.int (if k then 1 else 0)) H) intD := by
  intro F H ds vs k d Q s r e q
  unfold intD at e
  split at e
  · cases e
    obtain ⟨v, _, rfl, rx, rfl⟩ := r
    exact .inl ⟨_, by rw [rx.int], q F _ H (.pure (.refl s) (by rw [Rep]))⟩
  · cases e
    obtain ⟨v, _, rfl, rx, rfl⟩ := r
    exact .inr ⟨_, by rw [rx.bl], q F _ H (.pure (.refl s) (by rw [Rep]))⟩
  · cases e
theorem v_intc (hm : X.mg "int" = none) (ha : VA X F0 H0 Ψ (e :: es) fs) (hgl : Gl X "int" := by rfl) (he : starEach (e :: es) X.env = (false, eval e X.env) :: starEach es X.env := by rfl) (hpl : (backTo pos (starEach es X.env)).any (·.1) = false := by rfl) : VE X F0 H0 Ψ (.Call (.Name "int" p) (e :: es) [] pos) (eCall intD fs) := v_callT call_int1 ok_intD hm (by rfl) ha hgl (by decide) (by decide) he hpl
end
end L3
set_option Elab.async false
set_option linter.all false
set_option maxRecDepth 100000
namespace L3
open PySem L2
section
variable {h : Heap} {og : Addr → Option Obj} {F G H : Hp} {a : Addr}
variable {P : Program} {w : World} {K : PySem.W.Frag}
end
end L3
set_option Elab.async false
set_option linter.all false
set_option maxRecDepth 100000
namespace L3
open PySem L2
section
variable {ev e : Ev} {f f1 f2 c : Ev → R} {fs : Ev → RA} {g h body : Ev → Fl} {k k1 k2 : Kd} {d d1 d2 : D} {C : Addr} {i n : Nat}
@[simp] theorem ev_at0 {α : Type} {a : α} {l : List α} : (a :: l)[0]? = some a := (rfl)
noncomputable def bindFl (r : Fl) (h : Ev → Fl) : Fl := match r with
  | .nx e => h e
  | r => r
@[simp] theorem seqG_eq : seqG g h ev = bindFl (g ev) h := (rfl)
@[simp] theorem bind_nx : bindFl (.nx e) h = h e := (rfl)
@[simp] theorem bind_rt : bindFl (.rt k d) h = .rt k d := (rfl)
@[simp] theorem bind_ct : bindFl (.ct e) h = .ct e := (rfl)
@[simp] theorem bind_ex : bindFl (.ex C) h = .ex C := (rfl)
noncomputable def setR (i : Nat) (r : R) (ev : Ev) : Fl := match r with
  | .ok .bo _ => .no
  | .ok k d => .nx (ev.set i (some (k, d)))
  | .ex C => .ex C
  | .no => .no
@[simp] theorem setG_eq : setG i f ev = setR i (f ev) ev := (rfl)
@[simp] theorem setR_fz : setR i (.ok .fz d) ev = .nx (ev.set i (some (.fz, d))) := (rfl)
@[simp] theorem setR_ow : setR i (.ok .ow d) ev = .nx (ev.set i (some (.ow, d))) := (rfl)
noncomputable def retR (r : R) : Fl := match r with
  | .ok .bo _ => .no
  | .ok k d => .rt k d
  | .ex C => .ex C
  | .no => .no
@[simp] theorem retG_eq : retG f ev = retR (f ev) := (rfl)
@[simp] theorem retR_fz : retR (.ok .fz d) = .rt .fz d := (rfl)
@[simp] theorem retR_ow : retR (.ok .ow d) = .rt .ow d := (rfl)
noncomputable def retVR (o : Option (Option (Kd × D))) : Fl := match o with
  | some (some (.fz, d)) => .rt .fz d
  | some (some (.ow, d)) => .rt .ow d
  | _ => .no
@[simp] theorem retVarG_eq : retVarG i ev = retVR ev[i]? := (rfl)
@[simp] theorem retVR_ow : retVR (some (some (.ow, d))) = .rt .ow d := (rfl)
noncomputable def dropR (r : R) (ev : Ev) : Fl := match r with
  | .ok _ _ => .nx ev
  | .ex C => .ex C
  | .no => .no
@[simp] theorem dropG_eq : dropG f ev = dropR (f ev) ev := (rfl)
@[simp] theorem dropR_ok : dropR (.ok k d) ev = .nx ev := (rfl)
@[simp] theorem dropR_ex : dropR (.ex C) ev = .ex C := (rfl)
noncomputable def ifFl (r : R) (g h : Ev → Fl) (ev : Ev) : Fl := match r with
  | .ok _ (.bl b) => if b then g ev else h ev
  | .ex C => .ex C
  | _ => .no
@[simp] theorem ifG_eq : ifG c g h ev = ifFl (c ev) g h ev := (rfl)
@[simp] theorem ifFl_t : ifFl (.ok k (.bl true)) g h ev = g ev := (rfl)
@[simp] theorem ifFl_f : ifFl (.ok k (.bl false)) g h ev = h ev := (rfl)
noncomputable def asgR (b : B1) (r : R) (ev : Ev) : Fl := match r with
  | .ok .bo _ => .no
  | .ok _ d => match b d ev with
    | some ev' => .nx ev'
    | none => .no
  | .ex C => .ex C
  | .no => .no
noncomputable def nxO : Option Ev → Fl
  | some e => .nx e
  | none => .no
@[simp] theorem nxO_some : nxO (some e) = .nx e := (rfl)
@[simp] theorem asgG_eq {b : B1} : asgG b f ev = asgR b (f ev) ev := (rfl)
@[simp] theorem asgR_fz {b : B1} : asgR b (.ok .fz d) ev = nxO (b d ev) := by unfold asgR nxO; rfl
@[simp] theorem frzG_eq : frzG i g ev = g (frzEv i ev) := (rfl)
noncomputable def frzO (i : Nat) (o : Option (Option (Kd × D))) (ev : Ev) : Ev := match o with
  | some (some (.ow, d)) => ev.set i (some (.fz, d))
  | _ => ev
@[simp] theorem frzEv_eq : frzEv i ev = frzO i ev[i]? ev := (rfl)
@[simp] theorem frzO_ow : frzO i (some (some (.ow, d))) ev = ev.set i (some (.fz, d)) := (rfl)
@[simp] theorem frzO_fz : frzO i (some (some (.fz, d))) ev = ev := (rfl)
noncomputable def appR (i : Nat) (o : Option (Option (Kd × D))) (f : Ev → R) (ev : Ev) : Fl := match o with
  | some (some (.ow, .lst ds)) => match f ev with
    | .ok .bo _ => .no
    | .ok _ d => if ds.length < LIM then .nx (ev.set i (some (.ow, .lst (ds ++ [d])))) else .no
    | .ex C => .ex C
    | .no => .no
  | _ => .no
noncomputable def appR2 (i : Nat) (ds : List D) (r : R) (ev : Ev) : Fl := match r with
    | .ok .bo _ => .no
    | .ok _ d => if ds.length < LIM then .nx (ev.set i (some (.ow, .lst (ds ++ [d])))) else .no
    | .ex C => .ex C
    | .no => .no
@[simp] theorem appG_eq : appG i f ev = appR i ev[i]? f ev := (rfl)
@[simp] theorem appR_ow {ds : List D} : appR i (some (some (.ow, .lst ds))) f ev = appR2 i ds (f ev) ev := (rfl)
@[simp] theorem appR2_fz {ds : List D} : appR2 i ds (.ok .fz d) ev = if ds.length < LIM then .nx (ev.set i (some (.ow, .lst (ds ++ [d])))) else .no := (rfl)
noncomputable def sitR3 (i : Nat) (ds : List D) (d : D) (o : Option Nat) (ev : Ev) : Fl := match o with
  | some j => .nx (ev.set i (some (.ow, .lst (ds.set j d))))
  | none => .no
noncomputable def sitR2 (i : Nat) (ds : List D) (d : D) (r : R) (ev : Ev) : Fl := match r with
  | .ok _ (.int k) => sitR3 i ds d (ixN ds.length k) ev
  | .ex C => .ex C
  | _ => .no
noncomputable def sitK (i : Nat) (ks : List Key) (xs : List D) (d : D) (o : Option Key) (ev : Ev) : Fl := match o with
  | some k => if ks.length < LIM then .nx (ev.set i (some (.ow, .dK (dPutK ks k) (dPutV ks xs k d)))) else .no
  | none => .no
noncomputable def sitD (i : Nat) (ks : List Key) (xs : List D) (d : D) (r : R) (ev : Ev) : Fl := match r with
  | .ok _ kd => sitK i ks xs d (keyD kd) ev
  | .ex C => .ex C
  | .no => .no
noncomputable def sitKT (i : Nat) (ks : List (List Key)) (xs : List D) (d : D) (o : Option (List Key)) (ev : Ev) : Fl := match o with
  | some k => if ks.length < LIM then .nx (ev.set i (some (.ow, .dT (dPutK ks k) (dPutV ks xs k d)))) else .no
  | none => .no
noncomputable def sitT (i : Nat) (ks : List (List Key)) (xs : List D) (d : D) (r : R) (ev : Ev) : Fl := match r with
  | .ok _ (.tup l) => sitKT i ks xs d (keysD l) ev
  | .ex C => .ex C
  | _ => .no
noncomputable def sitR1 (i : Nat) (d : D) (o : Option (Option (Kd × D))) (f : Ev → R) (ev : Ev) : Fl := match o with
  | some (some (.ow, .lst ds)) => sitR2 i ds d (f ev) ev
  | some (some (.ow, .dK ks xs)) => sitD i ks xs d (f ev) ev
  | some (some (.ow, .dT ks xs)) => sitT i ks xs d (f ev) ev
  | _ => .no
noncomputable def sitR (i : Nat) (f : Ev → R) (r : R) (ev : Ev) : Fl := match r with
  | .ok .bo _ => .no
  | .ok _ d => sitR1 i d ev[i]? f ev
  | .ex C => .ex C
  | .no => .no
@[simp] theorem setItG_eq : setItG i f f2 ev = sitR i f (f2 ev) ev := by
  unfold setItG
  by_cases c : isLst ev[i]? = true
  · rw [if_pos c]
    unfold isLst at c
    split at c
    · rename_i ds e
      unfold setLG sitR
      rw [e]
      generalize f2 ev = r
      cases r with
      | ok k d => cases k <;> rfl
      | ex C => rfl
      | no => rfl
    · cases c
  · rw [if_neg c]
    have key : ∀ o : Option (Option (Kd × D)), isLst o ≠ true → ∀ d, (match o with
      | some (some (.ow, .dK ks xs)) => match f ev with
        | .ok _ kd => match keyD kd with
          | some k => if ks.length < LIM then Fl.nx (ev.set i (some (.ow, .dK (dPutK ks k) (dPutV ks xs k d)))) else .no
          | none => .no
        | .ex C => .ex C
        | .no => .no
      | some (some (.ow, .dT ks xs)) => match f ev with
        | .ok _ (.tup l) => match keysD l with
          | some k => if ks.length < LIM then Fl.nx (ev.set i (some (.ow, .dT (dPutK ks k) (dPutV ks xs k d)))) else .no
          | none => .no
        | .ex C => .ex C
        | _ => .no
      | _ => .no) = sitR1 i d o f ev := fun o ho d => by
      cases o with
      | none => rfl
      | some o =>
        cases o with
        | none => rfl
        | some z =>
          obtain ⟨k, z⟩ := z
          cases k <;> try rfl
          cases z <;> first | rfl | exact absurd rfl ho
    unfold setDG sitR
    generalize f2 ev = r
    cases r with
    | ok k d => cases k with
      | bo => rfl
      | fz => exact key _ c d
      | ow => exact key _ c d
    | ex C => rfl
    | no => rfl
@[simp] theorem sitR_fz : sitR i f (.ok .fz d) ev = sitR1 i d ev[i]? f ev := (rfl)
@[simp] theorem sitR1_dT {ks : List (List Key)} {xs : List D} : sitR1 i d (some (some (.ow, .dT ks xs))) f ev = sitT i ks xs d (f ev) ev := (rfl)
@[simp] theorem sitT_ok {ks : List (List Key)} {xs : List D} {l : List D} : sitT i ks xs d (.ok k (.tup l)) ev = sitKT i ks xs d (keysD l) ev := (rfl)
theorem sitKT_ok {ks : List (List Key)} {xs : List D} {q : List Key} (h : ks.length < LIM) : sitKT i ks xs d (some q) ev = .nx (ev.set i (some (.ow, .dT (dPutK ks q) (dPutV ks xs q d)))) := if_pos h
@[simp] theorem keyD_int {x : Int} : keyD (.int x) = some (.inl x) := (rfl)
@[simp] theorem keyD_str {x : Str} : keyD (.str x) = some (.inr x) := (rfl)
@[simp] theorem keysD_nil : keysD [] = some [] := (rfl)
@[simp] theorem keysD_cons {l : List D} : keysD (d :: l) = (keyD d).bind fun k => (keysD l).map (k :: ·) := (rfl)
noncomputable def varO (o : Option (Option (Kd × D))) : R := match o with
  | some (some (.fz, d)) => .ok .fz d
  | some (some (.ow, d)) => .ok .bo d
  | _ => .no
@[simp] theorem varR_eq : varR i ev = varO ev[i]? := (rfl)
@[simp] theorem varO_fz : varO (some (some (.fz, d))) = .ok .fz d := (rfl)
@[simp] theorem varO_ow : varO (some (some (.ow, d))) = .ok .bo d := (rfl)
@[simp] theorem conR_eq : conR d ev = .ok .fz d := (rfl)
@[simp] theorem eOp_eq {g : G2} : eOp g f1 f2 ev = op2 g (f1 ev) (f2 ev) := (rfl)
@[simp] theorem op2_ok {g : G2} : op2 g (.ok k1 d1) (.ok k2 d2) = toR (g d1 d2) := (rfl)
@[simp] theorem toR_some : toR (some (k, d)) = .ok k d := (rfl)
@[simp] theorem eAnd_eq : eAnd f1 f2 ev = andR (f1 ev) (f2 ev) := (rfl)
@[simp] theorem eOr_eq : eOr f1 f2 ev = orR (f1 ev) (f2 ev) := (rfl)
@[simp] theorem eNot_eq : eNot f ev = notR (f ev) := (rfl)
@[simp] theorem andR_t {r : R} : andR (.ok k (.bl true)) r = r := (rfl)
@[simp] theorem andR_f {r : R} : andR (.ok k (.bl false)) r = .ok .fz (.bl false) := (rfl)
@[simp] theorem orR_t {r : R} : orR (.ok k (.bl true)) r = .ok .fz (.bl true) := (rfl)
@[simp] theorem andR_b {b c : Bool} : andR (.ok k (.bl b)) (.ok .fz (.bl c)) = .ok .fz (.bl (b && c)) := by cases b <;> rfl
@[simp] theorem orR_b {b c : Bool} : orR (.ok k (.bl b)) (.ok .fz (.bl c)) = .ok .fz (.bl (b || c)) := by cases b <;> rfl
@[simp] theorem notR_b {b : Bool} : notR (.ok k (.bl b)) = .ok .fz (.bl (!b)) := (rfl)
@[simp] theorem aNil_eq : aNil ev = .ok [] := (rfl)
@[simp] theorem aCons_eq : aCons f fs ev = consA (f ev) (fs ev) := (rfl)
@[simp] theorem consA_fz {l : List (Kd × D)} : consA (.ok .fz d) (.ok l) = .ok ((.fz, d) :: l) := (rfl)
@[simp] theorem consA_ow {l : List (Kd × D)} : consA (.ok .ow d) (.ok l) = .ok ((.fz, d) :: l) := (rfl)
@[simp] theorem consA_bo {l : List (Kd × D)} : consA (.ok .bo d) (.ok l) = .ok ((.bo, d) :: l) := (rfl)
@[simp] theorem eTup_eq : eTup fs ev = tupR (fs ev) := (rfl)
@[simp] theorem eLst_eq : eLst fs ev = lstR (fs ev) := (rfl)
noncomputable def tupO (o : Option (List D)) : R := match o with
  | some ds => if ds.length ≤ LIM then .ok .fz (.tup ds) else .no
  | none => .no
noncomputable def lstO (o : Option (List D)) : R := match o with
  | some ds => if ds.length ≤ LIM then .ok .ow (.lst ds) else .no
  | none => .no
@[simp] theorem tupR_ok {l : List (Kd × D)} : tupR (.ok l) = tupO (allFz l) := (rfl)
@[simp] theorem lstR_ok {l : List (Kd × D)} : lstR (.ok l) = lstO (allFz l) := (rfl)
@[simp] theorem allFz_nil : allFz [] = some [] := (rfl)
@[simp] theorem allFz_cons {l : List (Kd × D)} : allFz ((.fz, d) :: l) = (allFz l).map (d :: ·) := (rfl)
@[simp] theorem allFz_bo {l : List (Kd × D)} : allFz ((.bo, d) :: l) = none := (rfl)
@[simp] theorem tupO_2 {a b : D} : tupO (some [a, b]) = .ok .fz (.tup [a, b]) := (rfl)
@[simp] theorem tupO_3 {a b c : D} : tupO (some [a, b, c]) = .ok .fz (.tup [a, b, c]) := (rfl)
@[simp] theorem tupO_4 {a b c e : D} : tupO (some [a, b, c, e]) = .ok .fz (.tup [a, b, c, e]) := (rfl)
@[simp] theorem lstO_0 : lstO (some []) = .ok .ow (.lst []) := (rfl)
@[simp] theorem lstO_1 {a : D} : lstO (some [a]) = .ok .ow (.lst [a]) := (rfl)
@[simp] theorem lstO_2 {a b : D} : lstO (some [a, b]) = .ok .ow (.lst [a, b]) := (rfl)
@[simp] theorem lstO_3 {a b c : D} : lstO (some [a, b, c]) = .ok .ow (.lst [a, b, c]) := (rfl)
@[simp] theorem lstO_4 {a b c e : D} : lstO (some [a, b, c, e]) = .ok .ow (.lst [a, b, c, e]) := (rfl)
@[simp] theorem lstO_5 {a0 a1 a2 a3 a4 : D} : lstO (some [a0, a1, a2, a3, a4]) = .ok .ow (.lst [a0, a1, a2, a3, a4]) := (rfl)
@[simp] theorem eCall_eq {g : GN} : eCall g fs ev = callR g (fs ev) := (rfl)
@[simp] theorem callR_ok {g : GN} {l : List (Kd × D)} : callR g (.ok l) = toR (g (l.map (·.2))) := (rfl)
noncomputable def outK (r : R) : R := match r with
  | .ok .fz d => .ok .fz d
  | .ok .ow d => .ok .ow d
  | _ => .no
noncomputable def outS (r : R) : R := match r with
  | .ok .bo _ => .no
  | .ok _ d => if scalD d then .ok .fz d else .no
  | _ => .no
noncomputable def fnO (φ : List D → R) (o : Option (List D)) (l : List (Kd × D)) : R := match o with
  | some ds => outK (φ ds)
  | none => outS (φ (l.map (·.2)))
@[simp] theorem eFn_eq {φ : List D → R} : eFn n φ fs ev = fnR n φ (fs ev) := (rfl)
theorem fnR_ok {φ : List D → R} {l : List (Kd × D)} (h : l.length = n) : fnR n φ (.ok l) = fnO φ (allFz l) l := by
  simp only [fnR, if_pos h]
  unfold fnO outK outS
  cases allFz l <;> rfl
@[simp] theorem fnR_1 {φ : List D → R} {a : Kd × D} : fnR 1 φ (.ok [a]) = fnO φ (allFz [a]) [a] := (fnR_ok rfl)
@[simp] theorem fnR_2 {φ : List D → R} {a b : Kd × D} : fnR 2 φ (.ok [a, b]) = fnO φ (allFz [a, b]) [a, b] := (fnR_ok rfl)
@[simp] theorem fnR_3 {φ : List D → R} {a b c : Kd × D} : fnR 3 φ (.ok [a, b, c]) = fnO φ (allFz [a, b, c]) [a, b, c] := (fnR_ok rfl)
@[simp] theorem fnO_some {φ : List D → R} {ds : List D} {l : List (Kd × D)} : fnO φ (some ds) l = outK (φ ds) := (rfl)
@[simp] theorem outK_fz : outK (.ok .fz d) = .ok .fz d := (rfl)
@[simp] theorem outK_ow : outK (.ok .ow d) = .ok .ow d := (rfl)
noncomputable def forO (r : RI) (b : B1) (body : Ev → Fl) (ev : Ev) : Fl := match r with
  | .ok ds => forE b body ds ev
  | .ex C => .ex C
  | .no => .no
@[simp] theorem forG_eq {fi : Ev → RI} {b : B1} : forG fi b body ev = forO (fi ev) b body ev := (rfl)
@[simp] theorem forO_ok {ds : List D} {b : B1} : forO (.ok ds) b body ev = forE b body ds ev := (rfl)
@[simp] theorem iLst_eq : iLst f ev = itR (f ev) := (rfl)
@[simp] theorem itR_fz {ds : List D} : itR (.ok .fz (.lst ds)) = .ok ds := (rfl)
@[simp] theorem iRngW_eq : iRngW fs ev = rngW (fs ev) := (rfl)
@[simp] theorem rngW_eq {j : Int} (h : j < 4611686018427387904) : rngW (.ok [(k, .int j)]) = .ok (rangeD 0 j.toNat) := (if_pos h)
@[simp] theorem bName_eq : bName i d ev = some (ev.set i (some (.fz, d))) := (rfl)
@[simp] theorem bTup3 {c : BN} {x y z : D} : bTup 3 c (.tup [x, y, z]) ev = c [x, y, z] ev := (rfl)
@[simp] theorem bTup4 {c : BN} {x y z u : D} : bTup 4 c (.tup [x, y, z, u]) ev = c [x, y, z, u] ev := (rfl)
@[simp] theorem bCons_eq {b : B1} {c : BN} {l : List D} : bCons b c (d :: l) ev = (b d ev).bind (c l) := (rfl)
@[simp] theorem bNil_eq : bNil [] ev = some ev := (rfl)
noncomputable def compO (b : B1) (c e : Ev → R) (ev : Ev) (r : RI) : R := match r with
  | .ok ds => if ds.length < LIM then (match compE b c e ev ds with
    | some l => .ok .ow (.lst l)
    | none => .no) else .no
  | .ex C => .ex C
  | .no => .no
@[simp] theorem eComp_eq {cap : List (Option Nat)} {fi : Ev → RI} {b : B1} {c e : Ev → R} : eComp cap fi b c e ev = compO b c e (capE cap ev) (fi ev) := by unfold eComp compR compO; rfl
theorem compE_fm {b : B1} {c e : Ev → R} {α : Type} {enc : α → D} {p : α → Bool} {v : α → D} : ∀ {l : List α}, (∀ x ∈ l, ∃ ev1, b (enc x) ev = some ev1 ∧ (∃ k, c ev1 = .ok k (.bl (p x))) ∧ (p x = true → ∃ k, k ≠ Kd.bo ∧ e ev1 = .ok k (v x))) →
    compE b c e ev (l.map enc) = some ((l.filter p).map v)
  | [], _ => rfl
  | x :: l, hl => by
    obtain ⟨ev1, h1, ⟨k, h2⟩, h3⟩ := hl x (by simp)
    have ih := compE_fm (b := b) (c := c) (e := e) (enc := enc) (p := p) (v := v) (l := l) fun y hy => hl y (by simp [hy])
    rw [List.map_cons, compE]
    simp only [h1, h2]
    by_cases hp : p x = true
    · obtain ⟨k', hk, h4⟩ := h3 hp
      rw [if_pos hp, h4, List.filter_cons_of_pos hp, List.map_cons, ih]
      cases k' with
      | bo => exact absurd rfl hk
      | fz => rfl
      | ow => rfl
    · rw [if_neg hp, List.filter_cons_of_neg hp, ih]
theorem compO_fm {b : B1} {c e : Ev → R} {α : Type} {enc : α → D} {l : List α} (p : α → Bool) (v : α → D) (hn : l.length < LIM) (h : ∀ x ∈ l, ∃ ev1, b (enc x) ev = some ev1 ∧ (∃ k, c ev1 = .ok k (.bl (p x))) ∧ (p x = true → ∃ k, k ≠ Kd.bo ∧ e ev1 = .ok k (v x))) :
    compO b c e ev (.ok (l.map enc)) = .ok .ow (.lst ((l.filter p).map v)) := by
  simp only [compO]
  rw [compE_fm h]
  simp [hn]
@[simp] theorem capE_nil : capE [] ev = [] := (rfl)
@[simp] theorem capE_none {cap : List (Option Nat)} : capE (none :: cap) ev = none :: capE cap ev := (rfl)
noncomputable def capO (o : Option (Option (Kd × D))) : Option (Kd × D) := match o.join with
  | some (.fz, d) => some (.fz, d)
  | _ => none
@[simp] theorem capE_some {cap : List (Option Nat)} {j : Nat} : capE (some j :: cap) ev = capO ev[j]? :: capE cap ev := (rfl)
@[simp] theorem capO_fz : capO (some (some (.fz, d))) = some (.fz, d) := (rfl)
noncomputable def runO (r : Fl) : R := match r with
  | .rt .bo _ => .no
  | .rt k d => .ok k d
  | .nx _ => .ok .fz .non
  | .ex C => .ex C
  | _ => .no
theorem runF_eq {ds : List D} : runF n g ds = runO (g (ev0 n ds)) := rfl
@[simp] theorem runO_fz : runO (.rt .fz d) = .ok .fz d := (rfl)
@[simp] theorem addD_int {x y : Int} : addD (.int x) (.int y) = some (.fz, .int (x + y)) := (rfl)
@[simp] theorem addD_lst {x y : List D} : addD (.lst x) (.lst y) = if x.length + y.length ≤ LIM then some (.ow, .lst (x ++ y)) else none := (rfl)
@[simp] theorem addD_str {x y : Str} (h : x.length + y.length ≤ 1000000) : addD (.str x) (.str y) = some (.fz, .str (x ++ y)) := (if_pos h)
@[simp] theorem subD_int {x y : Int} : subD (.int x) (.int y) = some (.fz, .int (x - y)) := (rfl)
@[simp] theorem mulD_ok {x y : Int} (h : (-(2 ^ 64) < x ∧ x < 2 ^ 64) ∨ (-(2 ^ 64) < y ∧ y < 2 ^ 64)) : mulD (.int x) (.int y) = some (.fz, .int (x * y)) := by
  have : mulL (.int x) (.int y) = some (.fz, .int (x * y)) := if_pos h
  simp [mulD, this]
@[simp] theorem mulD_str {x : Str} {y : Int} (h : 0 ≤ y ∧ y ≤ 1000 ∧ x.length ≤ 1000) : mulD (.str x) (.int y) = some (.fz, .str (Txt.mul x y)) := by
  have : mulS (.str x) (.int y) = some (.fz, .str (Txt.mul x y)) := if_pos h
  simp [mulD, this, mulL]
@[simp] theorem fdivD_ok {x y : Int} (h : 0 < y ∧ y < 2 ^ 200) : fdivD (.int x) (.int y) = some (.fz, .int (x / y)) := (if_pos h)
@[simp] theorem modD_ok {x y : Int} (h : 0 < y) : modD (.int x) (.int y) = some (.fz, .int (x % y)) := (if_pos h)
@[simp] theorem powD_ok {x y : Int} (h : 0 ≤ y ∧ y ≤ 1000000 ∧ x.natAbs < 2 ^ 64) : powD (.int x) (.int y) = some (.fz, .int (x ^ y.toNat)) := (if_pos h)
@[simp] theorem ltD_int {x y : Int} : ltD (.int x) (.int y) = some (.fz, .bl (decide (x < y))) := (rfl)
@[simp] theorem leD_int {x y : Int} : leD (.int x) (.int y) = some (.fz, .bl (decide (x ≤ y))) := (rfl)
@[simp] theorem gtD_int {x y : Int} : gtD (.int x) (.int y) = some (.fz, .bl (decide (y < x))) := (rfl)
@[simp] theorem geD_int {x y : Int} : geD (.int x) (.int y) = some (.fz, .bl (decide (y ≤ x))) := (rfl)
@[simp] theorem isND_nn : isND .non .non = some (.fz, .bl true) := (rfl)
@[simp] theorem isND_int {x : Int} : isND (.int x) .non = some (.fz, .bl false) := (rfl)
@[simp] theorem notND_nn : notND .non .non = some (.fz, .bl false) := (rfl)
@[simp] theorem notND_int {x : Int} : notND (.int x) .non = some (.fz, .bl true) := (rfl)
@[simp] theorem idxD_lst {x : List D} {j : Int} : idxD (.lst x) (.int j) = (atI x j).map fun d => (.fz, d) := by
  simp [idxD, getK, lookD, idxL]
@[simp] theorem idxD_scr {x : List D} {j : Int} : idxD (.scr x) (.int j) = (atI x j).map fun d => (.fz, d) := by
  simp [idxD, getK, lookD, idxL]
@[simp] theorem idxD_tup {x : List D} {j : Int} : idxD (.tup x) (.int j) = (atI x j).map fun d => (.fz, d) := by
  simp [idxD, getK, lookD, idxL]
@[simp] theorem idxD_dT {ks : List (List Key)} {xs l : List D} {q : List Key} (h : keysD l = some q) : idxD (.dT ks xs) (.tup l) = (dGet ks xs q).map fun d => (.fz, d) := by
  simp only [idxD, getK, lookD, idxL, h, Option.map_some, Option.or]
  cases dGet ks xs q <;> rfl
@[simp] theorem eUn_eq {g : G1} : eUn g f ev = un1 g (f ev) := (rfl)
@[simp] theorem un1_ok {g : G1} : un1 g (.ok k d) = toR (g d) := (rfl)
@[simp] theorem negD_int {x : Int} : negD (.int x) = some (.fz, .int (-x)) := (rfl)
@[simp] theorem eChain_eq {g g' : G2} {f3 : Ev → R} : eChain g g' f1 f2 f3 ev = chnR g g' (f1 ev) (f2 ev) (f3 ev) := (rfl)
noncomputable def chn2 (g' : G2) (o : Option (Kd × D)) (r2 r3 : R) : R := match o with
  | some (_, .bl t) => if t then op2 g' r2 r3 else .ok .fz (.bl false)
  | _ => .no
@[simp] theorem chnR_ok {g g' : G2} {r3 : R} : chnR g g' (.ok k1 d1) (.ok k2 d2) r3 = chn2 g' (g d1 d2) (.ok k2 d2) r3 := (rfl)
@[simp] theorem chn2_t {g' : G2} {r2 r3 : R} : chn2 g' (some (k, .bl true)) r2 r3 = op2 g' r2 r3 := (rfl)
@[simp] theorem chn2_f {g' : G2} {r2 r3 : R} : chn2 g' (some (k, .bl false)) r2 r3 = .ok .fz (.bl false) := (rfl)
@[simp] theorem eChain3_eq {g g' g'' : G2} {f3 f4 : Ev → R} : eChain3 g g' g'' f1 f2 f3 f4 ev = chn3R g g' g'' (f1 ev) (f2 ev) (f3 ev) (f4 ev) := (rfl)
noncomputable def chn3 (g' g'' : G2) (o : Option (Kd × D)) (r2 r3 r4 : R) : R := match o with
  | some (_, .bl t) => if t then chnR g' g'' r2 r3 r4 else .ok .fz (.bl false)
  | _ => .no
@[simp] theorem chn3R_ok {g g' g'' : G2} {r3 r4 : R} : chn3R g g' g'' (.ok k1 d1) (.ok k2 d2) r3 r4 = chn3 g' g'' (g d1 d2) (.ok k2 d2) r3 r4 := (rfl)
@[simp] theorem chn3_t {g' g'' : G2} {r2 r3 r4 : R} : chn3 g' g'' (some (k, .bl true)) r2 r3 r4 = chnR g' g'' r2 r3 r4 := (rfl)
@[simp] theorem chn3_f {g' g'' : G2} {r2 r3 r4 : R} : chn3 g' g'' (some (k, .bl false)) r2 r3 r4 = .ok .fz (.bl false) := (rfl)
@[simp] theorem eLenSet_eq : eLenSet f ev = lenSetR (f ev) := (rfl)
@[simp] theorem lenSetR_ok : lenSetR (.ok k d) = toR (lenSetD d) := (rfl)
theorem lenSetD_ok {xs : List D} {ks : List (List Key)} (h : keysL xs = some ks) (hl : xs.length < 4000) : lenSetD (.lst xs) = some (.fz, .int (ST.dd ks).length) := by
  simp only [lenSetD, h, if_pos hl]
@[simp] theorem stepD_m {xs : List D} : stepD (.lst xs) (.int (-1)) = some (.ow, .lst xs.reverse) := (rfl)
@[simp] theorem eSl_eq {fl fh : Ev → RO} : eSl f fl fh ev = slR (f ev) (fl ev) (fh ev) := (rfl)
@[simp] theorem oNo_eq : oNo ev = .ok none := (rfl)
@[simp] theorem oSome_eq : oSome f ev = oS (f ev) := (rfl)
@[simp] theorem oS_int {x : Int} : oS (.ok k (.int x)) = .ok (some x) := (rfl)
@[simp] theorem slR_ok {l h : Option Int} : slR (.ok k d) (.ok l) (.ok h) = toR (slD d l h) := (rfl)
@[simp] theorem slD_lst {xs : List D} {l h : Option Int} : slD (.lst xs) l h = some (.ow, .lst (cutG xs l h)) := (rfl)
@[simp] theorem absD_int {x : Int} : absD [.int x] = some (.fz, .int (if x < 0 then -x else x)) := (rfl)
@[simp] theorem lenD_lst {x : List D} : lenD [.lst x] = some (.fz, .int x.length) := (rfl)
@[simp] theorem lenD_scr {x : List D} : lenD [.scr x] = some (.fz, .int x.length) := (rfl)
@[simp] theorem listD_lst {x : List D} : listD [.lst x] = some (.ow, .lst x) := (rfl)
@[simp] theorem min2_eq {x y : Int} : min2D [.int x, .int y] = some (.fz, .int (min x y)) := by
  show some (Kd.fz, D.int (if y < x then y else x)) = _
  congr 3; split <;> omega
@[simp] theorem max2_eq {x y : Int} : max2D [.int x, .int y] = some (.fz, .int (max x y)) := by
  show some (Kd.fz, D.int (if y > x then y else x)) = _
  congr 3; split <;> omega
end
section
variable {b : B1} {body : Ev → Fl}
theorem forE_by (Q : Fl → Prop) (I : List D → Ev → Prop) (step : ∀ d ds ev, I (d :: ds) ev → ∃ ev1, b d ev = some ev1 ∧ match body ev1 with
      | .nx e => I ds e
      | .ct e => I ds e
      | .bk e => Q (.nx e)
      | r => Q r) (fin : ∀ ev, I [] ev → Q (.nx ev)) : ∀ {ds : List D} {ev : Ev}, I ds ev → Q (forE b body ds ev)
  | [], ev, h => fin ev h
  | d :: ds, ev, h => by
    obtain ⟨ev1, e1, m⟩ := step d ds ev h
    rw [forE, e1]
    dsimp only
    cases q : body ev1 with
    | nx e => rw [q] at m; exact forE_by Q I step fin m
    | ct e => rw [q] at m; exact forE_by Q I step fin m
    | bk e => rw [q] at m; exact m
    | rt k d => rw [q] at m; exact m
    | ex C => rw [q] at m; exact m
    | no => rw [q] at m; exact m
theorem rangeD_eq (lo : Int) (n : Nat) : rangeD lo n = (List.range n).map fun (i : Nat) => D.int (lo + i) := rfl
end
theorem law_sp {K : PySem.W.Frag} {H : Hp} {a : Addr} {ns : List Int} {φ : List D → R} {E : XK} (hS : SqL K H a (ns.map V.int)) (h : φ [.scr (ns.map D.int)] = .ok .fz (.bl true)) : spV0 K φ 1 [.ref a] H (fun v _ => v = .bl true) E := by
  refine ⟨H, [.scr (ns.map D.int)], .refl _, .cons ?_ .nil, rfl, ?_⟩
  · rw [Rep]
    refine ⟨a, _, rfl, hS, ?_⟩
    clear hS h
    induction ns with
    | nil => exact .nil
    | cons x l ih => exact .cons (by rw [Rep]) ih
  · rw [h]
    refine ⟨by simp, fun F' v H' p => p.val.rd.bl⟩
end L3
set_option Elab.async false
set_option linter.all false
set_option maxRecDepth 100000
namespace L3
open PySem L2
mutual
/-- plain: no truths, no script; at most n deep -/
noncomputable def pl : Nat → D → Bool
  | _, .non => true
  | _, .int _ => true
  | _, .str x => PyData.strOk x
  | n + 1, .tup xs => plL n xs
  | n + 1, .lst xs => plL n xs
  | _, _ => false
noncomputable def plL : Nat → List D → Bool
  | _, [] => true
  | n, d :: ds => pl n d && plL n ds
end
theorem plL_iff {n : Nat} : ∀ {l : List D}, plL n l = true ↔ ∀ d ∈ l, pl n d = true
  | [] => by simp [plL]
  | d :: l => by simp [plL, plL_iff (l := l)]
mutual
theorem pl_up : ∀ {n : Nat} {d : D}, pl n d = true → pl (n + 1) d = true
  | _, .non, _ => rfl
  | _, .int _, _ => rfl
  | _, .str _, h => by simp only [pl] at h ⊢; exact h
  | n + 1, .tup xs, h => by simp only [pl] at h ⊢; exact plL_ups h
  | n + 1, .lst xs, h => by simp only [pl] at h ⊢; exact plL_ups h
  | 0, .tup _, h => by simp [pl] at h
  | 0, .lst _, h => by simp [pl] at h
  | _, .bl _, h => by simp [pl] at h
  | _, .dK _ _, h => by simp [pl] at h
  | _, .dT _ _, h => by simp [pl] at h
  | _, .obj _ _ _, h => by simp [pl] at h
  | _, .scr _, h => by simp [pl] at h
  | _, .ty _, h => by simp [pl] at h
theorem plL_ups : ∀ {n : Nat} {l : List D}, plL n l = true → plL (n + 1) l = true
  | _, [], _ => by simp [plL]
  | _, d :: l, h => by
    simp only [plL, Bool.and_eq_true] at h ⊢
    exact ⟨pl_up h.1, plL_ups h.2⟩
end
mutual
theorem py_of : ∀ {n : Nat} {d : D}, pl n d = true → ∃ p, py d = some p ∧ p.depth ≤ n
  | _, .non, _ => ⟨.none, rfl, by simp [PyData.depth]⟩
  | _, .int i, _ => ⟨.int i, rfl, by simp [PyData.depth]⟩
  | _, .str x, h => ⟨.str x, by simp only [pl] at h; simp [py, h], by simp [PyData.depth]⟩
  | n + 1, .tup xs, h => by
    simp only [pl] at h
    obtain ⟨ps, e, hd⟩ := pyL_of h
    exact ⟨.tuple ps, by simp [py, e], by simp only [PyData.depth]; omega⟩
  | n + 1, .lst xs, h => by
    simp only [pl] at h
    obtain ⟨ps, e, hd⟩ := pyL_of h
    exact ⟨.list ps, by simp [py, e], by simp only [PyData.depth]; omega⟩
  | 0, .tup _, h => by simp [pl] at h
  | 0, .lst _, h => by simp [pl] at h
  | _, .bl _, h => by simp [pl] at h
  | _, .dK _ _, h => by simp [pl] at h
  | _, .dT _ _, h => by simp [pl] at h
  | _, .obj _ _ _, h => by simp [pl] at h
  | _, .scr _, h => by simp [pl] at h
  | _, .ty _, h => by simp [pl] at h
theorem pyL_of : ∀ {n : Nat} {l : List D}, plL n l = true → ∃ ps, pyL l = some ps ∧ PyData.depthAll ps ≤ n
  | n, [], _ => ⟨[], rfl, by simp [PyData.depthAll]⟩
  | n, d :: l, h => by
    simp only [plL, Bool.and_eq_true] at h
    obtain ⟨p, e1, h1⟩ := py_of h.1
    obtain ⟨ps, e2, h2⟩ := pyL_of h.2
    exact ⟨p :: ps, by simp [pyL, e1, e2], by simp only [PyData.depthAll]; omega⟩
end
inductive PlS : Nat → D → PyData → Prop
  | non {n} : PlS n .non .none
  | int {n} (i) : PlS n (.int i) (.int i)
  | str {n} (x) : PlS n (.str x) (.str x)
  | tup {n l p} (h : plL n l = true) (e : pyL l = some p) : PlS (n + 1) (.tup l) (.tuple p)
  | lst {n l p} (h : plL n l = true) (e : pyL l = some p) : PlS (n + 1) (.lst l) (.list p)
theorem pls_of {n : Nat} {a : D} {p : PyData} (h : pl n a = true) (e : py a = some p) : PlS n a p := by
  cases a with
  | non => cases e; exact .non
  | int i => cases e; exact .int i
  | str x => simp only [pl] at h; simp only [py, h, if_true] at e; cases e; exact .str x
  | tup l => cases n with
    | zero => simp [pl] at h
    | succ n =>
      simp only [py, Option.map_eq_some_iff] at e
      obtain ⟨ps, e1, rfl⟩ := e
      exact .tup h e1
  | lst l => cases n with
    | zero => simp [pl] at h
    | succ n =>
      simp only [py, Option.map_eq_some_iff] at e
      obtain ⟨ps, e1, rfl⟩ := e
      exact .lst h e1
  | _ => simp [pl] at h
mutual
theorem eqv_pl : ∀ {n m : Nat} {a b : D} {p q : PyData}, pl n a = true → pl m b = true → py a = some p → py b = some q → (p.eqv q = true ↔ a = b)
  | n, m, a, b, p, q, ha, hb, ea, eb => by
    have A := pls_of ha ea
    have B := pls_of hb eb
    clear ha hb ea eb
    cases A with
    | non => cases B <;> simp [PyData.eqv]
    | int => cases B <;> simp [PyData.eqv]
    | str => cases B <;> simp [PyData.eqv]
    | tup h e => cases B with
      | tup h2 e2 => simp only [PyData.eqv, eqv_plL h h2 e e2, D.tup.injEq]
      | _ => simp [PyData.eqv]
    | lst h e => cases B with
      | lst h2 e2 => simp only [PyData.eqv, eqv_plL h h2 e e2, D.lst.injEq]
      | _ => simp [PyData.eqv]
theorem eqv_plL : ∀ {n m : Nat} {a b : List D} {p q : List PyData}, plL n a = true → plL m b = true → pyL a = some p → pyL b = some q → (PyData.eqvAll p q = true ↔ a = b)
  | n, m, [], [], p, q, _, _, ea, eb => by cases ea; cases eb; simp [PyData.eqvAll]
  | n, m, [], y :: b, p, q, _, hb, ea, eb => by
    cases ea
    simp only [pyL] at eb
    cases e1 : py y with
    | none => rw [e1] at eb; cases eb
    | some u => rw [e1] at eb; cases e2 : pyL b with
      | none => rw [e2] at eb; cases eb
      | some us => rw [e2] at eb; cases eb; simp [PyData.eqvAll]
  | n, m, x :: a, [], p, q, ha, _, ea, eb => by
    cases eb
    simp only [pyL] at ea
    cases e1 : py x with
    | none => rw [e1] at ea; cases ea
    | some u => rw [e1] at ea; cases e2 : pyL a with
      | none => rw [e2] at ea; cases ea
      | some us => rw [e2] at ea; cases ea; simp [PyData.eqvAll]
  | n, m, x :: a, y :: b, p, q, ha, hb, ea, eb => by
    simp only [plL, Bool.and_eq_true] at ha hb
    obtain ⟨p1, e1, _⟩ := py_of ha.1
    obtain ⟨ps, e2, _⟩ := pyL_of ha.2
    obtain ⟨q1, e3, _⟩ := py_of hb.1
    obtain ⟨qs, e4, _⟩ := pyL_of hb.2
    simp only [pyL, e1, e2, Option.bind_some, Option.map_some, Option.some.injEq] at ea
    simp only [pyL, e3, e4, Option.bind_some, Option.map_some, Option.some.injEq] at eb
    subst ea; subst eb
    simp only [PyData.eqvAll, Bool.and_eq_true, eqv_pl ha.1 hb.1 e1 e3, eqv_plL ha.2 hb.2 e2 e4, List.cons.injEq]
end
noncomputable instance instDecD : DecidableEq D := fun a b => Classical.propDecidable (a = b)
theorem eqD_pl {a b : D} (ha : pl 60 a = true) (hb : pl 60 b = true) : eqD a b = some (.fz, .bl (decide (a = b))) := by
  obtain ⟨p, e1, h1⟩ := py_of ha
  obtain ⟨q, e2, _⟩ := py_of hb
  have h1' : p.depth ≤ DEEP := h1
  simp only [eqD, e1, e2, if_pos h1']
  congr 3
  rw [Bool.eq_iff_iff, eqv_pl ha hb e1 e2, decide_eq_true_iff]
theorem neD_pl {a b : D} (ha : pl 60 a = true) (hb : pl 60 b = true) : neD a b = some (.fz, .bl (decide (a ≠ b))) := by
  obtain ⟨p, e1, h1⟩ := py_of ha
  obtain ⟨q, e2, _⟩ := py_of hb
  have h1' : p.depth ≤ DEEP := h1
  simp only [neD, e1, e2, if_pos h1']
  congr 3
  rw [Bool.eq_iff_iff, decide_eq_true_iff, Bool.not_eq_true', ← Bool.not_eq_true, eqv_pl ha hb e1 e2]
theorem any_pl {n m : Nat} {a : D} {p : PyData} (ha : pl n a = true) (ea : py a = some p) : ∀ {l : List D} {qs : List PyData}, plL m l = true → pyL l = some qs → ((qs.any fun q => q.eqv p) = true ↔ a ∈ l)
  | [], _, _, e => by cases e; simp
  | d :: l, qs, h, e => by
    simp only [plL, Bool.and_eq_true] at h
    obtain ⟨q1, e3, _⟩ := py_of h.1
    obtain ⟨qs', e4, _⟩ := pyL_of h.2
    simp only [pyL, e3, e4, Option.bind_some, Option.map_some, Option.some.injEq] at e
    subst e
    rw [List.any_cons, Bool.or_eq_true, eqv_pl h.1 ha e3 ea, any_pl ha ea h.2 e4, List.mem_cons]
    exact or_congr eq_comm Iff.rfl
theorem notInD_pl {a b : D} {xs : List D} (hx : itemsD b = some xs) (ha : pl 60 a = true) (hb : plL 60 xs = true) : notInD a b = some (.fz, .bl (decide (a ∉ xs))) := by
  obtain ⟨p, e1, h1⟩ := py_of ha
  obtain ⟨qs, e2, _⟩ := pyL_of hb
  have h1' : p.depth ≤ DEEP := h1
  have : notInL a b = some (.fz, .bl (decide (a ∉ xs))) := by
    simp only [notInL, e1, hx, Option.bind_some, e2, if_pos h1']
    congr 3
    rw [Bool.eq_iff_iff, decide_eq_true_iff, Bool.not_eq_true', ← Bool.not_eq_true, any_pl ha e1 hb e2]
  simp [notInD, this]
theorem notInD_dT {ks : List (List Key)} {xs l : List D} {q : List Key} (h : keysD l = some q) : notInD (.tup l) (.dT ks xs) = some (.fz, .bl !(dGet ks xs q).isSome) := by
  have : notInL (.tup l) (.dT ks xs) = none := by simp only [notInL, itemsD, Option.bind_none]; split <;> simp_all
  simp [notInD, this, hasNotK, lookD, h]
@[simp] theorem eqD_int {x y : Int} : eqD (.int x) (.int y) = some (.fz, .bl (decide (x = y))) := by
  rw [eqD_pl (by simp [pl]) (by simp [pl])]
  congr 3
  rw [Bool.eq_iff_iff, decide_eq_true_iff, decide_eq_true_iff]; simp
@[simp] theorem neD_int {x y : Int} : neD (.int x) (.int y) = some (.fz, .bl (decide (x ≠ y))) := by
  rw [neD_pl (by simp [pl]) (by simp [pl])]
  congr 3
  rw [Bool.eq_iff_iff, decide_eq_true_iff, decide_eq_true_iff]; simp
theorem atI_of {xs : List D} {i : Nat} {d : D} (h : xs[i]? = some d) : atI xs (i : Int) = some d := atI_nat h
@[simp] theorem atI_0 {d : D} {l : List D} : atI (d :: l) 0 = some d := atI_nat (j := 0) rfl
@[simp] theorem atI_1 {a d : D} {l : List D} : atI (a :: d :: l) 1 = some d := atI_nat (j := 1) rfl
@[simp] theorem atI_2 {a b d : D} {l : List D} : atI (a :: b :: d :: l) 2 = some d := atI_nat (j := 2) rfl
@[simp] theorem atI_3 {a b c d : D} {l : List D} : atI (a :: b :: c :: d :: l) 3 = some d := atI_nat (j := 3) rfl
end L3
set_option Elab.async false
set_option linter.all false
set_option maxRecDepth 100000
namespace L3
open PySem L2
noncomputable def Wp (r : Fl) (Q : Fl → Prop) : Prop := Q r
section
variable {r : Fl} {Q : Fl → Prop} {ev e : Ev} {g h h' : Ev → Fl} {k : Kd} {d : D} {C : Addr} {b : B1} {body : Ev → Fl} {ds : List D}
@[simp] theorem bind_end : bindFl r .nx = r := by cases r <;> rfl
noncomputable def loopQ (I : Ev → Prop) (h : Ev → Fl) (Q : Fl → Prop) : Fl → Prop
  | .nx e => I e
  | .ct e => I e
  | .bk e => Wp (h e) Q
  | r => Q r
@[simp] theorem loop_nx {I : Ev → Prop} : Wp (.nx e) (loopQ I h Q) = I e := (rfl)
@[simp] theorem loop_ct {I : Ev → Prop} : Wp (.ct e) (loopQ I h Q) = I e := (rfl)
@[simp] theorem loop_rt {I : Ev → Prop} : Wp (.rt k d) (loopQ I h Q) = Wp (.rt k d) Q := (rfl)
@[simp] theorem loop_ex {I : Ev → Prop} : Wp (.ex C) (loopQ I h Q) = Wp (.ex C) Q := (rfl)
theorem wp_for (I : List D → Ev → Prop) (step : ∀ d ds ev, I (d :: ds) ev → ∃ ev1, b d ev = some ev1 ∧ Wp (body ev1) (loopQ (I ds) h Q)) (fin : ∀ ev, I [] ev → Wp (h ev) Q) (h0 : I ds ev) : Wp (bindFl (forE b body ds ev) h) Q := by
  refine forE_by (fun r => Wp (bindFl r h) Q) I (fun d ds ev hi => ?_) (fun ev hi => fin ev hi) h0
  obtain ⟨ev1, e1, m⟩ := step d ds ev hi
  refine ⟨ev1, e1, ?_⟩
  cases q : body ev1 <;> rw [q] at m <;> exact m
theorem wp_forM {β : Type} {enc : β → D} {l : List β} (I : List β → Ev → Prop) (step : ∀ x xs ev, (∃ pre, l = pre ++ x :: xs) → I (x :: xs) ev → ∃ ev1, b (enc x) ev = some ev1 ∧ Wp (body ev1) (loopQ (I xs) h Q)) (fin : ∀ ev, I [] ev → Wp (h ev) Q) (h0 : I l ev) : Wp (bindFl (forE b body (l.map enc) ev) h) Q := by
  refine wp_for (fun ds ev => ∃ xs, ds = xs.map enc ∧ (∃ pre, l = pre ++ xs) ∧ I xs ev) ?_ ?_ ⟨l, rfl, ⟨[], rfl⟩, h0⟩
  · rintro d ds ev ⟨xs, e, ⟨pre, hp⟩, hi⟩
    cases xs with
    | nil => simp at e
    | cons x xs =>
      simp at e
      obtain ⟨rfl, rfl⟩ := e
      obtain ⟨ev1, e1, w⟩ := step x xs ev ⟨pre, hp⟩ hi
      refine ⟨ev1, e1, ?_⟩
      revert w
      cases body ev1 with
      | nx e => exact fun w => ⟨xs, rfl, ⟨pre ++ [x], by simp [hp]⟩, w⟩
      | ct e => exact fun w => ⟨xs, rfl, ⟨pre ++ [x], by simp [hp]⟩, w⟩
      | _ => exact id
  · rintro ev ⟨xs, e, _, hi⟩
    cases xs with
    | nil => exact fin ev hi
    | cons x xs => simp at e
theorem wp_forM1 {β : Type} {enc : β → D} {l : List β} (I : List β → Ev → Prop) (step : ∀ x xs ev, (∃ pre, l = pre ++ x :: xs) → I (x :: xs) ev → ∃ ev1, b (enc x) ev = some ev1 ∧ Wp (body ev1) (loopQ (I xs) .nx Q)) (fin : ∀ ev, I [] ev → Wp (.nx ev) Q) (h0 : I l ev) : Wp (forE b body (l.map enc) ev) Q := by
  have := wp_forM (b := b) (body := body) (enc := enc) (l := l) (ev := ev) (h := .nx) (Q := Q) I step fin h0
  rwa [bind_end] at this
theorem wp_if {t : Bool} (h1 : t = true → Wp (bindFl (g ev) h') Q) (h2 : t = false → Wp (bindFl (h ev) h') Q) : Wp (bindFl (ifFl (.ok k (.bl t)) g h ev) h') Q := by
  cases t with
  | true => exact h1 rfl
  | false => exact h2 rfl
theorem wp_if1 {t : Bool} (h1 : t = true → Wp (g ev) Q) (h2 : t = false → Wp (h ev) Q) : Wp (ifFl (.ok k (.bl t)) g h ev) Q := by
  cases t with
  | true => exact h1 rfl
  | false => exact h2 rfl
noncomputable def runQ (P : R → Prop) (r : Fl) : Prop := P (runO r)
@[simp] theorem run_fz {P : R → Prop} : Wp (.rt .fz d) (runQ P) = P (.ok .fz d) := (rfl)
@[simp] theorem run_ow {P : R → Prop} : Wp (.rt .ow d) (runQ P) = P (.ok .ow d) := (rfl)
@[simp] theorem run_nx {P : R → Prop} : Wp (.nx e) (runQ P) = P (.ok .fz .non) := (rfl)
@[simp] theorem run_ex {P : R → Prop} : Wp (.ex C) (runQ P) = P (.ex C) := (rfl)
@[elab_as_elim] theorem run_el {motive : R → Prop} (r : R) {n : Nat} (e : r = runF n g ds) (w : Wp (g (ev0 n ds)) (runQ motive)) : motive r := e ▸ w
end
theorem compO_map {b : B1} {e : Ev → R} {ev : Ev} {α : Type} {enc : α → D} {l : List α} (v : α → D) (hn : l.length < LIM) (h : ∀ x ∈ l, ∃ ev1, b (enc x) ev = some ev1 ∧ ∃ k, k ≠ Kd.bo ∧ e ev1 = .ok k (v x)) :
    compO b (conR (.bl true)) e ev (.ok (l.map enc)) = .ok .ow (.lst (l.map v)) := by
  have := compO_fm (b := b) (c := conR (.bl true)) (e := e) (ev := ev) (enc := enc) (l := l) (fun _ => true) v hn fun x hx => by
    obtain ⟨ev1, h1, h2⟩ := h x hx
    exact ⟨ev1, h1, ⟨.fz, rfl⟩, fun _ => h2⟩
  rwa [List.filter_eq_self.2 (by simp)] at this
end L3
namespace L3
open PySem L2
section
variable {κ : Type} [DecidableEq κ]
theorem dGet_app {k q : κ} {d : D} : ∀ {ks : List κ} {xs : List D}, ks.length = xs.length → k ∉ ks → dGet (ks ++ [k]) (xs ++ [d]) q = if q = k then some d else dGet ks xs q
  | [], [], _, _ => by simp [dGet, eq_comm]
  | [], x :: xs, h, _ => by simp at h
  | p :: ks, [], h, _ => by simp at h
  | p :: ks, x :: xs, h, hk => by
    simp only [List.cons_append, dGet]
    rw [dGet_app (by simpa using h) (fun z => hk (by simp [z]))]
    by_cases e : p = q
    · subst e
      have : ¬ p = k := fun z => hk (by simp [z])
      simp [this]
    · simp [e]
theorem dGet_zip {k q : κ} {d : D} : ∀ {ks : List κ} {xs : List D}, ks.length = xs.length → dGet ks (List.zipWith (fun k' x => if k' = k then d else x) ks xs) q = if q = k ∧ k ∈ ks then some d else dGet ks xs q
  | [], _, _ => by simp [dGet]
  | p :: ks, [], h => by simp at h
  | p :: ks, x :: xs, h => by
    simp only [List.zipWith_cons_cons, dGet]
    rw [dGet_zip (by simpa using h)]
    by_cases e : p = q
    · subst e
      by_cases e2 : p = k
      · simp [e2]
      · simp [e2]
    · by_cases e2 : q = k
      · subst e2
        have : ¬ q = p := fun z => e z.symm
        simp [e, this]
      · simp [e, e2]
theorem dGet_put {k q : κ} {d : D} {ks : List κ} {xs : List D} (h : ks.length = xs.length) : dGet (dPutK ks k) (dPutV ks xs k d) q = if q = k then some d else dGet ks xs q := by
  unfold dPutK dPutV
  by_cases hk : k ∈ ks
  · rw [if_pos hk, if_pos hk, dGet_zip h]; simp [hk]
  · rw [if_neg hk, if_neg hk, dGet_app h hk]
theorem dPut_len {k : κ} {d : D} {ks : List κ} {xs : List D} (h : ks.length = xs.length) : (dPutK ks k).length = (dPutV ks xs k d).length := by
  unfold dPutK dPutV
  by_cases hk : k ∈ ks
  · rw [if_pos hk, if_pos hk]; simp [h]
  · rw [if_neg hk, if_neg hk]; simp [h]
end
theorem sIx_nat (n d k : Nat) : HT.sIx n d (some (k : Int)) = min k n := by
  show (if (k : Int) < 0 then ((k : Int) + (n : Int)).toNat else min (k : Int).toNat n) = _
  rw [if_neg (by omega)]; simp
theorem cut_from {α : Type} (xs : List α) (k : Nat) : cutG xs (some (k : Int)) none = xs.drop k := by
  unfold cutG
  rw [sIx_nat]
  show (xs.drop (min k xs.length)).take (xs.length - min k xs.length) = _
  by_cases h : k ≤ xs.length
  · rw [Nat.min_eq_left h, List.take_of_length_le (by simp)]
  · rw [Nat.min_eq_right (by omega), List.drop_of_length_le (by omega), List.drop_of_length_le (by omega)]; simp
theorem cut_upto {α : Type} (xs : List α) (k : Nat) : cutG xs none (some (k : Int)) = xs.take k := by
  unfold cutG
  rw [sIx_nat]
  show (xs.drop 0).take (min k xs.length - 0) = _
  by_cases h : k ≤ xs.length
  · rw [Nat.min_eq_left h]; simp
  · rw [Nat.min_eq_right (by omega), List.take_of_length_le (by simp), List.take_of_length_le (by omega)]; simp
end L3
set_option Elab.async false
set_option linter.all false
set_option maxRecDepth 100000
namespace L3
open PySem L2 TSrt
end L3
set_option Elab.async false
set_option linter.all false
set_option maxRecDepth 100000
namespace L3
open PySem L2
section
variable {ev : Ev} {f f1 f2 : Ev → R} {i j n : Nat} {d : D} {l : List D} {k : Kd} {C : Addr}
end
end L3
set_option Elab.async false
set_option linter.all false
set_option maxRecDepth 100000
namespace L3
open PySem L2
section
variable {ev e : Ev} {f f1 f2 c : Ev → R} {fs ks : Ev → RA} {g h body : Ev → Fl} {k k1 k2 : Kd} {d d1 d2 : D} {C : Addr} {i n m : Nat}
end
end L3
set_option Elab.async false
set_option linter.all false
set_option maxRecDepth 100000
namespace L3
open PySem L2
section
variable {ev e : Ev} {f f1 f2 c : Ev → R} {fs ks : Ev → RA} {g h body : Ev → Fl} {k k1 k2 : Kd} {d d1 d2 : D} {C : Addr} {i j n m : Nat}
@[simp] theorem intD_bl {b : Bool} : intD [.bl b] = some (.fz, .int (if b then 1 else 0)) := (rfl)
end
end L3
set_option linter.all false
namespace Net
noncomputable abbrev Stp := Nat × Nat × Int
noncomputable abbrev B := List (Option (Int × List Nat))
noncomputable def at_ (b : B) (v : Nat) : Option (Int × List Nat) := (b[v]?).join
noncomputable def val (b : B) (v : Nat) : Option Int := (at_ b v).map (·.1)
noncomputable def start (n h : Nat) : B := (List.replicate n none).set h (some (0, [h]))
inductive W (steps : List Stp) (h : Nat) : List Nat → Int → Prop
  | one : W steps h [h] 0
  | more {s g : Nat} {p : List Nat} {t c : Int} : W steps h (s :: p) t → (s, g, c) ∈ steps → W steps h (g :: s :: p) (t + c)

section
variable {n h : Nat} {steps : List Stp} {b : B}
theorem val_some {v : Nat} {t : Int} (e : val b v = some t) : ∃ w, at_ b v = some (t, w) := by
  unfold val at e
  cases q : at_ b v with
  | none => rw [q] at e; cases e
  | some z => obtain ⟨t', w⟩ := z; rw [q] at e; simp at e; subst e; exact ⟨w, rfl⟩
end
end Net
set_option Elab.async false
set_option linter.all false
set_option maxRecDepth 100000
namespace L3
open PySem L2
noncomputable def ExObj (o : Obj) (c : Value) : Prop := o.cls = c ∧ o.dict = none ∧ ∃ vs, o.data = .fields vs
noncomputable def exO (a : Addr) (c : Value) : HO := .ext fun h => ∃ o, h.get? a = some o ∧ ExObj o c
noncomputable def trO : HO := .ext fun _ => True
theorem exO_ok {P : Program} {w : World} {H : Hp} {h : Heap} {a : Addr} {c : Value} {o : Obj} (e : h.get? a = some o) (q : ExObj o c) : ObjOk P w H h a (exO a c) :=
  ⟨⟨o, e, q⟩, ⟨o, e⟩, fun _ _ ⟨o1, z1, z2⟩ k => ⟨o1, k o1 z1, z2⟩⟩
theorem trO_ok {P : Program} {w : World} {H : Hp} {h : Heap} {a : Addr} (e : ∃ o, h.get? a = some o) : ObjOk P w H h a trO := ⟨trivial, e, fun _ _ _ _ => trivial⟩
theorem obj_there {P : Program} {w : World} {H : Hp} {h : Heap} : ∀ {o : HO} {a : Addr}, ObjOk P w H h a o → ∃ u, h.get? a = some u := by
  intro o
  induction o with
  | lst xs => intro a x; obtain ⟨_, _, _, _, e⟩ := x; exact ⟨_, e⟩
  | tup xs => intro a x; obtain ⟨_, _, _, o, e, _⟩ := x; exact ⟨_, e⟩
  | dK kvs => intro a x; obtain ⟨_, _, _, _, o, _, _, e, _⟩ := x; exact ⟨_, e⟩
  | dT kvs => intro a x; obtain ⟨_, _, _, _, o, _, _, e, _⟩ := x; exact ⟨_, e⟩
  | set S n => intro a x; obtain ⟨o, _, _, _, e, _⟩ := x; exact ⟨_, e⟩
  | ins C dx fs => intro a x; obtain ⟨_, _, _, e, _⟩ := x; exact ⟨_, e⟩
  | own _ => intro a x; exact x
  | xd fs => intro a x; obtain ⟨_, ⟨o, _, _, e, _⟩, _⟩ := x; exact ⟨_, e⟩
  | rng lo hi => intro a x; obtain ⟨_, _, _, e⟩ := x; exact ⟨_, e⟩
  | frz o u _ => intro a x; exact ⟨_, x.1⟩
  | tbl ps => intro a x; exact ⟨_, x⟩
  | met f x => intro a x; exact ⟨_, x⟩
  | ext φ => intro a x; exact x.2.1
noncomputable def Fut (H : Hp) (p : Hp → Prop) : Prop := ∀ H', (∀ F, Same F H → Step F H F H') → p H'
theorem Fut.now {H : Hp} {p : Hp → Prop} (h : Fut H p) : p H := h H fun _ s => .refl s
theorem step_upd {F H : Hp} {a : Addr} {o : HO} (s : Same F H) (n : H a = none) : Step F H F (upd H a o) := by
  have k : Same H (upd H a o) := fun b u e => by rw [upd_ne (ne_of_none e n)]; exact e
  exact ⟨.refl _, s.trans k, k, fun _ _ e => .inl e⟩
section
variable {X : Cx} {pins : List (Addr × Obj)} {σ : St} {H : Hp} {s : Shared} {a : Addr} {c : Value}
structure Turn (fs : List Addr) (a T : Addr) (h h' : Heap) : Prop where
  keep : ∀ b o, b ∉ fs → b ≠ a → b ≠ T → h.get? b = some o → h'.get? b = some o
  slot : ∀ b o, b ∈ fs → h.get? b = some o → (∀ vs, o.data ≠ .fields vs) → ∃ sl, h'.get? b = some { o with slots := sl }
theorem inv_turn {T T' : Addr} {h' : Heap} {H' : Hp} (I : Inv X pins σ H s) (t : Turn (frs X.stack) a T s.heap h') (ha : H a = some (exO a c)) (hT : T = a ∨ H T = some trO) (ea : ∃ o, h'.get? a = some o ∧ ExObj o c) (eT : ∃ o, h'.get? T = some o)
    (hH : H' = H ∨ (H' = upd H T' trO ∧ s.heap.get? T' = none ∧ ∃ o, h'.get? T' = some o)) : Inv X pins σ H' { s with heap := h' } := by
  have st := I.stack
  have nf : ∀ b, b ∈ frs X.stack → ∀ o, s.heap.get? b = some o → ∀ vs, o.data ≠ .fields vs := fun b hb o e => by
    obtain ⟨_, o', e', d⟩ := st.mem hb
    rw [e] at e'; cases e'; exact d
  have un : ∀ b, H b = none → b ≠ a ∧ b ≠ T := fun b n => by
    refine ⟨fun z => (by rw [z, ha] at n; cases n), fun z => ?_⟩
    rcases hT with q | q
    · rw [z, q, ha] at n; cases n
    · rw [z, q] at n; cases n
  have nT : ∀ b o, s.heap.get? b = some o → (H' = H ∨ (H' = upd H T' trO ∧ b ≠ T')) := fun b o e => by
    rcases hH with q | ⟨q, n, _⟩
    · exact .inl q
    · exact .inr ⟨q, fun z => by rw [z, n] at e; cases e⟩
  have same : Same H H' := fun b u e => by
    obtain ⟨o, eo⟩ := obj_there (I.hok b u e)
    rcases nT b o eo with q | ⟨q, ne⟩
    · rw [q]; exact e
    · rw [q, upd_ne ne]; exact e
  have any : ∀ b o, s.heap.get? b = some o → ∃ o', h'.get? b = some o' := fun b o e => by
    by_cases h1 : b ∈ frs X.stack
    · obtain ⟨sl, q⟩ := t.slot b o h1 e (nf b h1 o e); exact ⟨_, q⟩
    · by_cases h2 : b = a
      · rw [h2]; obtain ⟨o, q, _⟩ := ea; exact ⟨o, q⟩
      · by_cases h3 : b = T
        · rw [h3]; exact eT
        · exact ⟨o, t.keep b o h1 h2 h3 e⟩
  refine I.step (g' := s.gens) (t' := s.toks) (d' := s.drawn) (ch := []) (fun _ z => nomatch z) (fun b o hL hb _ e n => ?_) (fun b o hL hb _ e n => ?_) (fun b o _ e n => ?_) (fun b o _ e => any b o e) (fun b xs e => same _ _ e) (fun b o u e => same _ _ e) (fun b ps e => ⟨#[], by rw [same _ _ e]; simp⟩) (fun m hm => ?_) (fun b u e => ?_) I.bare
  · exact t.keep b o (fun z => (List.mem_cons.mp (I.stkSub b z)).elim hL hb) (un b n).1 (un b n).2 e
  · by_cases h1 : b ∈ frs X.stack
    · exact t.slot b o h1 e (nf b h1 o e)
    · exact ⟨o.slots, t.keep b o h1 (un b n).1 (un b n).2 e⟩
  · rcases nT b o e with q | ⟨q, ne⟩
    · rw [q]; exact n
    · rw [q, upd_ne ne]; exact n
  · obtain ⟨o, es, ep, ho, hd, r⟩ := hm
    by_cases h1 : X.env.locals ∈ frs X.stack
    · obtain ⟨sl, q⟩ := t.slot _ o h1 ho (nf _ h1 o ho)
      exact ⟨_, es, ep, q, hd, r⟩
    · exact ⟨o, es, ep, t.keep _ o h1 (un _ I.free).1 (un _ I.free).2 ho, hd, r⟩
  · have main : H b = some u → ObjOk X.prog X.w H' h' b u := fun e => by
      by_cases h2 : b = a
      · rw [h2, ha] at e; cases e
        obtain ⟨o, q1, q2⟩ := ea
        rw [h2]; exact exO_ok q1 q2
      · by_cases h3 : b = T
        · rcases hT with q | q
          · exact absurd (h3.trans q) h2
          · rw [h3, q] at e; cases e
            rw [h3]; exact trO_ok eT
        · refine (I.hok b u e).stay (fun y v hc q => ?_) (fun y q => same _ _ q) fun y xs q => same _ _ q
          have hy : ∃ z, H y = some z := by
            rcases hc with r | r
            · exact ⟨u, by rw [r]; exact e⟩
            · exact ⟨_, r⟩
          obtain ⟨z, hz⟩ := hy
          refine t.keep y v (fun r => ?_) (fun r => ?_) (fun r => ?_) q
          · rw [I.stkFree y r] at hz; cases hz
          · rcases hc with r1 | r1
            · exact h2 (r1.symm.trans r)
            · rw [r, ha] at r1; cases r1
          · rcases hc with r1 | r1
            · exact h3 (r1.symm.trans r)
            · rcases hT with q | q
              · rw [r, q, ha] at r1; cases r1
              · rw [r, q] at r1; cases r1
    rcases hH with q | ⟨q, n, eo⟩
    · rw [q] at e; exact main e
    · by_cases z : b = T'
      · rw [q, z, upd_same] at e; cases e
        rw [z]; exact trO_ok eo
      · rw [q, upd_ne z] at e; exact main e
noncomputable def TrcA (fl : Value) (h : Heap) (H : Hp) (a : Addr) (c a0 : Value) : Prop :=
  ∃ oe vs T oT ts, h.get? a = some oe ∧ (oe.cls = c ∧ oe.dict = none) ∧ oe.data = .fields vs ∧ vs[0]? = some a0 ∧ vs[1]? = some (.ref T) ∧ T ≠ a ∧ h.get? T = some oT ∧ oT.data = .fields ts ∧ ts[3]? = some fl ∧ H T = some trO
structure Trc (h : Heap) (H : Hp) (a : Addr) (c : Value) : Prop where
  tr : H a = some (exO a c)
  ex : (∃ oe vs a0, h.get? a = some oe ∧ (oe.cls = c ∧ oe.dict = none) ∧ oe.data = .fields vs ∧ vs[0]? = some a0 ∧ vs[1]? = some .none) ∨ ∃ a0, TrcA .none h H a c a0
structure Entry (fs : List Addr) (L a : Addr) (oe : Obj) (h h' : Heap) : Prop where
  keep : ∀ b o, b ∉ fs → b ≠ a → h.get? b = some o → h'.get? b = some o
  slot : ∀ b o, b ∈ fs → h.get? b = some o → ∃ sl, h'.get? b = some { o with slots := sl }
  new : ∃ T oT ts, h.get? T = none ∧ T ≠ a ∧ h'.get? a = some (oe.mapFields (·.setIfInBounds 1 (.ref T))) ∧ h'.get? T = some oT ∧ oT.data = .fields ts ∧ ts[3]? = some (rawInt L)
theorem mapF {o : Obj} {vs : Array Value} {f : Array Value → Array Value} (d : o.data = .fields vs) : (o.mapFields f).data = .fields (f vs) ∧ (o.mapFields f).cls = o.cls ∧ (o.mapFields f).dict = o.dict := by
  refine ⟨Obj.data_mapFields d f, Obj.cls_mapFields _ _, ?_⟩
  obtain ⟨c0, d0, x0, s0⟩ := o
  cases x0 <;> rfl
theorem entry_ok {M : Model} {A : Around} {E : Value → Shared → Prop} {s : Shared} {base : Heap} {env : Env} {outer : List Env} {L a : Addr} {oe : Obj} {vs : Array Value} {head : Value} {nx : Bool} {Q : Unit → Shared → Prop} (w1 : A.frames = some (env :: outer)) (w2 : s.heap.FunFrames base (env :: outer)) (w3 : env.frame = some L)
    (w4 : s.heap.get? a = some oe) (w5 : oe.data = .fields vs) (w6 : 1 < vs.size) (h : ∀ h', Entry (frs (env :: outer)) L a oe s.heap h' → Q () { s with heap := h' }) :
    wpAny M A (do let f ← frameOf env; let pl ← entryPlaceOf L nx; let b ← EntryCells.newEntry head f .none (rawInt L) .none pl; setField (.ref a) 1 b) Q E s := by
  have na : a ∉ frs (env :: outer) := fun z => by
    obtain ⟨_, o, q1, q2⟩ := w2.mem z
    rw [w4] at q1; cases q1; exact q2 vs w5
  refine wpAny_bind (wpAny_frameOf_fun w1 w2 w3 fun g1 so => ?_)
  refine wpAny_bind (wpAny_entryPlaceOf fun pz hz => ?_)
  unfold EntryCells.newEntry; unfold newFields
  refine wpAny_bind (wpAny_newObj_type ?_ (hz.sizeOk5 _ _ _ _ _))
  have x1 : g1.get? a = some oe := (so.2.1 a na).trans w4
  have nT : g1.objs.size ≠ a := Nat.ne_of_gt (Heap.lt_size x1)
  refine wpAny_setField (Heap.get?_push_of_some _ x1) w5 w6 (h _ ⟨fun b o n1 n2 e => ?_, fun b o n1 e => ?_, g1.objs.size, _, _, ?_, nT, Heap.get?_update_self _ (Heap.get?_push_of_some _ x1) (Obj.isFreed_of_fields (Obj.data_mapFields w5 _)), (Heap.get?_update_other _ _ (Ne.symm nT)).trans (Heap.get?_push_size g1 rfl), rfl, ?_⟩)
  · rw [Heap.get?_update_other _ _ (Ne.symm n2)]
    exact Heap.get?_push_of_some _ ((so.2.1 b n1).trans e)
  · obtain ⟨sl, z⟩ := so.2.2 b o e
    refine ⟨sl, ?_⟩
    have nb : a ≠ b := fun q => na (by rw [q]; exact n1)
    rw [Heap.get?_update_other _ _ nb]
    exact Heap.get?_push_of_some _ z
  · exact Heap.get?_none_of_le (by rw [so.1]; exact Nat.le_refl _)
  · first | (simp; done) | (rcases hz with rfl | ⟨_, _, _, _, _, _, _, rfl⟩ <;> simp)
theorem laid_entry {T L : Addr} {h1 h' : Heap} {a0 : Value} {oe : Obj} {vs : Array Value} (I : Inv X pins σ H s) (ha : H a = some (exO a c)) (hT : T = a ∨ H T = some trO) (o1 : ∀ b o, b ≠ T → s.heap.get? b = some o → h1.get? b = some o) (oT : T ≠ a → ∃ o, h1.get? T = some o)
    (q1 : oe.cls = c ∧ oe.dict = none) (q2 : oe.data = .fields vs) (q3 : vs[0]? = some a0) (q4 : 1 < vs.size) (k : Entry (frs X.stack) L a oe h1 h') :
    ∃ H', Inv X pins σ H' { s with heap := h' } ∧ TrcA (rawInt L) h' H' a c a0 ∧ H' a = some (exO a c) ∧ ∀ F, Same F H → Step F H F H' := by
  obtain ⟨k1, k2, T', oT', ts, nw, hTe, he, hT', hdT, h3⟩ := k
  obtain ⟨m1, m2, m3⟩ := mapF (f := (·.setIfInBounds 1 (.ref T'))) q2
  have fT : T ∉ frs X.stack := fun z => by
    have n := I.stkFree T z
    rcases hT with q | q
    · rw [q, ha] at n; cases n
    · rw [q] at n; cases n
  have tn : Turn (frs X.stack) a T s.heap h' := ⟨fun b o n1 n2 n3 e => k1 b o n1 n2 (o1 b o n3 e), fun b o m e _ => k2 b o m (o1 b o (fun z => fT (z ▸ m)) e)⟩
  have eT : ∃ o, h'.get? T = some o := by
    by_cases z : T = a
    · rw [z]; exact ⟨_, he⟩
    · obtain ⟨o, eo⟩ := oT z
      exact ⟨o, k1 T o fT z eo⟩
  have new : s.heap.get? T' = none := by
    cases q : s.heap.get? T' with
    | none => rfl
    | some o =>
      exfalso
      by_cases z : T' = T
      · by_cases z2 : T = a
        · exact hTe (z.trans z2)
        · obtain ⟨o, eo⟩ := oT z2
          rw [z, eo] at nw; cases nw
      · rw [o1 T' o z q] at nw; cases nw
  have hn : H T' = none := by
    cases q : H T' with
    | none => rfl
    | some u =>
      obtain ⟨o, eo⟩ := obj_there (I.hok T' u q)
      rw [new] at eo; cases eo
  exact ⟨upd H T' trO, inv_turn I tn ha hT ⟨_, he, m2.trans q1.1, m3.trans q1.2, _, m1⟩ eT (.inr ⟨rfl, new, _, hT'⟩), ⟨_, _, T', oT', ts, he, ⟨m2.trans q1.1, m3.trans q1.2⟩, m1, by rw [Array.getElem?_setIfInBounds_ne (by decide)]; exact q3, by simp [q4], hTe, hT', hdT, h3, upd_same⟩, by rw [upd_ne (fun z => hTe z.symm)]; exact ha, fun F q => step_upd q hn⟩
noncomputable def wrT (v : Value) (T : Addr) (h : Heap) : Heap := h.update T (Obj.mapFields (·.setIfInBounds 3 v))
theorem wrT_o {v : Value} {T b : Addr} {h : Heap} (n : b ≠ T) : (wrT v T h).get? b = h.get? b := Heap.get?_update_other _ _ (Ne.symm n)
theorem wrT_T {v : Value} {T : Addr} {h : Heap} {o : Obj} {ts : Array Value} (e : h.get? T = some o) (d : o.data = .fields ts) : ∃ o', (wrT v T h).get? T = some o' ∧ o'.data = .fields (ts.setIfInBounds 3 v) :=
  ⟨_, Heap.get?_update_self _ e (Obj.isFreed_of_fields (Obj.data_mapFields d _)), Obj.data_mapFields d _⟩
theorem land_ok {Q : Unit → Shared → Prop} {E : Value → Shared → Prop} {A : Around} {a0 fl : Value} (I : Inv X pins σ H s) (ta : H a = some (exO a c)) (t : TrcA fl s.heap H a c a0)
    (h : ∀ h', Inv X pins σ H { s with heap := h' } → TrcA .none h' H a c a0 → Q () { s with heap := h' }) : wpAny (model X.prog X.w) A (setFlight (.ref a) none) Q E s := by
  obtain ⟨oe, vs, T, oT, ts, e1, e2, e3, e4, e5, e6, e7, e8, e9, e10⟩ := t
  have sz := (Array.getElem?_eq_some_iff.mp e9).1
  obtain ⟨o', q1, q2⟩ := wrT_T (v := .none) e7 e8
  refine wpAny_setFlight_none e1 e3 e5 e7 e8 sz (h _ ?_ ⟨oe, vs, T, o', _, (wrT_o (Ne.symm e6)).trans e1, e2, e3, e4, e5, e6, q1, q2, by simp [sz], e10⟩)
  exact inv_turn (T := T) (T' := T) I ⟨fun b o _ _ n e => (wrT_o n).trans e, fun b o m e d => ⟨o.slots, (wrT_o (fun z => by rw [z, e7] at e; cases e; exact d _ e8)).trans e⟩⟩ ta (.inr e10) ⟨oe, (wrT_o (Ne.symm e6)).trans e1, e2.1, e2.2, _, e3⟩ ⟨_, q1⟩ (.inl rfl)
theorem note_ok {Q : Unit → Shared → Prop} {E : Value → Shared → Prop} (he : X.stack = X.env :: X.outer) (hf : X.env.frame = some X.env.locals) (I : Inv X pins σ H s) (t : Trc s.heap H a c)
    (h : ∀ h' H' a0, Inv X pins σ H' { s with heap := h' } → H' a = some (exO a c) → TrcA (rawInt X.env.locals) h' H' a c a0 → (∀ F, Same F H → Step F H F H') → Q () { s with heap := h' }) : wpAny (model X.prog X.w) X.A (noteFrame (.ref a) X.env) Q E s := by
  have fr := I.ok.frames
  have st := I.stack
  unfold noteFrame
  simp only [hf]
  rcases t.ex with ⟨oe, vs, a0, e1, e2, e3, e4, e5⟩ | ⟨a0, oe, vs, T, oT, ts, e1, e2, e3, e4, e5, e6, e7, e8, e9, e10⟩
  · have sz := (Array.getElem?_eq_some_iff.mp e5).1
    have le := fun h' => laid_entry (h' := h') (L := X.env.locals) (T := a) (h1 := s.heap) I t.tr (.inl rfl) (fun _ _ _ e => e) (fun z => absurd rfl z) e2 e3 e4 sz
    rw [he] at fr st le
    refine wpAny_bind (wpAny_field e1 e3 e5 ?_)
    rw [if_neg (by decide)]
    refine entry_ok fr st hf e1 e3 sz fun h' k => ?_
    obtain ⟨H', I', t', ta, sp⟩ := le _ k
    exact h h' H' a0 I' ta t' sp
  · have sz := (Array.getElem?_eq_some_iff.mp e5).1
    have fT : ∀ b o, s.heap.get? b = some o → (∀ vs, o.data ≠ .fields vs) → b ≠ T := fun b o e d z => by
      rw [z, e7] at e; cases e; exact d _ e8
    have st : (wrT .none T s.heap).FunFrames X.base X.stack := st.of_keeps fun b o e d => ⟨o, by rw [wrT_o (fT b o e d)]; exact e, rfl⟩
    have le := fun h' => laid_entry (h' := h') (L := X.env.locals) (T := T) (h1 := wrT .none T s.heap) I t.tr (.inr e10) (fun b o n e => by rw [wrT_o n]; exact e) (fun _ => let ⟨o', q, _⟩ := wrT_T e7 e8; ⟨o', q⟩) e2 e3 e4 sz
    rw [he] at fr st le
    refine wpAny_bind (wpAny_field e1 e3 e5 ?_)
    rw [if_pos (by simp)]
    refine wpAny_bind (wpAny_field e7 e8 e9 ?_)
    rw [if_neg (by simp [rawInt])]
    refine wpAny_bind (wpAny_setField e7 e8 (Array.getElem?_eq_some_iff.mp e9).1 ?_)
    refine entry_ok fr st hf ((wrT_o (Ne.symm e6)).trans e1) e3 sz fun h' k => ?_
    obtain ⟨H', I', t', ta, sp⟩ := le _ k
    exact h h' H' a0 I' ta t' sp
theorem leave_ok {Q : Unit → Shared → Prop} {E : Value → Shared → Prop} (he : X.stack = X.env :: X.outer) (hf : X.env.frame = some X.env.locals) (I : Inv X pins σ H s) (t : Trc s.heap H a c)
    (h : ∀ h' H', Inv X pins σ H' { s with heap := h' } → H' a = some (exO a c) → (∃ a0, TrcA .none h' H' a c a0) → (∀ F, Same F H → Step F H F H') → Q () { s with heap := h' }) : wpAny (model X.prog X.w) X.A (leaving X.env (.ref a)) Q E s := by
  unfold leaving
  exact wpAny_bind (note_ok he hf I t fun h' H' a0 I' ta t' sp => land_ok I' ta t' fun h'' I'' t'' => h h'' H' I'' ta ⟨a0, t''⟩ sp)
noncomputable def CXe (P : Program) (w : World) : CXT := fun outer H s E e s' => ∃ a c H', e = .ref a ∧ s'.os = s.os ∧ PyProof.Rows.AllBare s'.gens ∧ Un (frs outer) [] H H' s.heap s'.heap ∧ HOk P w H' s'.heap ∧ H' a = some (exO a c) ∧ (∃ a0, TrcA .none s'.heap H' a c a0) ∧ E c none H'
noncomputable def Raises (X : Cx) (Ψ : Value → Hp → Prop) : Prop := ∀ (pins : List (Addr × Obj)) (σ : St) (H : Hp) (s : Shared) (a : Addr) (c : Value), Inv X pins σ H s → Trc s.heap H a c → Fut H (Ψ c) → X.xe (.ref a) s
theorem passE {Ψ : Value → Hp → Prop} (r : Raises X Ψ) : Passes (CXe X.prog X.w) X (fun c _ H => Fut H (Ψ c)) := fun pins σ H s e s' I ⟨a, c, H', e1, e2, e3, e4, e5, e6, e8, e7⟩ => by
  subst e1
  exact r pins σ H' s' a c (I.call' (ch := []) e2 e4 e5 e3 fun b z => nomatch z) ⟨e6, .inr e8⟩ e7
theorem raises_def {P : Program} {w : World} {K : PySem.W.Frag} {mg : Str → Option Value} {base : Heap} {N : List Str} {qual : Str} {scope : Scope} {f : Addr} {cd : Value} {A : Around} {outer : List Env} {s0 : Shared} {H0 : Hp} {E : XK} :
    Raises (cxOf (CXe P w) P w K mg base N qual scope f cd A outer s0 H0 E) (fun c H => E c none H) := fun pins σ H s a c I t q => by
  show wpAny _ _ (leaving _ _) _ _ s
  refine leave_ok (X := cxOf (CXe P w) P w K mg base N qual scope f cd A outer s0 H0 E) rfl rfl I t fun h' H' I' ta t' sp => ?_
  exact ⟨a, c, H', rfl, I'.os, I'.bare, I'.base, I'.hok, ta, t', q H' sp⟩
end
end L3
set_option Elab.async false
set_option linter.all false
set_option maxRecDepth 100000
namespace L3
open PySem L2
noncomputable def bmV : List Value := [.type "ValueError", .type "Exception", .type "BaseException", .type "object"]
noncomputable def ExK (K : PySem.W.Frag) (C : Addr) : Prop := PySem.W.excIn K C bmV "ValueError.__new__" = true
structure ExA (h : Heap) (C : Addr) (bm : List Value) (N : Addr) (nm q : Str) (bs : List Value) (hd : Bool) (sn : List Str) (sub : List Value) (ab : Bool) (col : Option Bool) (dd : Option Addr) (k0 k1 k2 k3 k5 : Option Value) (mN : Str → Option Value) : Prop where
  obj : h.get? C = some (excClassObj nm q C N bs bm hd sn sub ab col dd k0 k1 k2 k3 k5 "ValueError.__new__")
  ns : h.Ns N mN
  ini : mN "__init__" = none
  tl : OwnTail h bmV bm
theorem exk_at {K : PySem.W.Frag} {h : Heap} {C : Addr} (X : K.In h) (e : ExK K C) : ∃ bm N nm q bs hd sn sub ab col dd k0 k1 k2 k3 k5 mN, ExA h C bm N nm q bs hd sn sub ab col dd k0 k1 k2 k3 k5 mN := by
  unfold ExK PySem.W.excIn at e
  split at e
  · rename_i d0 cd s0 l0
    split at e
    · rename_i c1 b1 y0 y1 y2 y3 n1 y5 m1 l1
      simp only [Bool.and_eq_true, beq_iff_eq, Bool.not_eq_true'] at e
      obtain ⟨⟨⟨⟨⟨z1, z2⟩, z3⟩, z4⟩, z5⟩, z6⟩ := e
      subst z1; subst z2
      obtain ⟨a1, a2, a3, a4, a5, a6, a7, a8, a9, b2, b3⟩ := cd
      dsimp only at m1 z3 z5 z6
      subst m1; subst z3
      obtain ⟨s1⟩ := s0
      simp only at l1
      subst l1
      exact ⟨b1, a4, a1, a5, a2, a6, a7, a8, a9, b2, d0, y0, y1, y2, y3, y5, _, X _ _ l0, .of_isNs (PySem.W.isNs_of_in X z5), PySem.W.nsMap_none_of_in X z5 z6, PySem.W.tail_of_in X z4⟩
    · cases e
  · cases e
section
variable {X : Cx} {pins : List (Addr × Obj)} {σ : St} {H : Hp} {s : Shared} {a : Addr} {c : Value}
theorem inv_exc {h' : Heap} {o : Obj} (I : Inv X pins σ H s) (k : ∀ b u, s.heap.get? b = some u → h'.get? b = some u) (n : s.heap.get? a = none) (e : h'.get? a = some o) (q : ExObj o c) : H a = none ∧ Inv X pins σ (upd H a (exO a c)) { s with heap := h' } := by
  have hn : H a = none := by
    cases z : H a with
    | none => rfl
    | some u =>
      obtain ⟨o', e'⟩ := obj_there (I.hok a u z)
      rw [n] at e'; cases e'
  have ne : ∀ b u, s.heap.get? b = some u → b ≠ a := fun b u e z => by rw [z, n] at e; cases e
  have sm : Same H (upd H a (exO a c)) := fun b u z => by rw [upd_ne (ne_of_none z hn)]; exact z
  refine ⟨hn, I.un (t' := s.toks) ⟨fun b u z _ _ _ => k b u z, fun b u z _ _ _ => ⟨u.slots, k b u z⟩, fun b u z m _ => by rw [upd_ne (ne b u z)]; exact m, fun b u z _ => ⟨u, k b u z⟩, fun b xs z => sm _ _ z, fun b u v z => sm _ _ z, fun b ps z => ⟨#[], by rw [sm _ _ z]; simp⟩⟩ fun b u z => ?_⟩
  by_cases y : b = a
  · rw [y, upd_same] at z; cases z
    rw [y]; exact exO_ok e q
  · rw [upd_ne y] at z
    exact (I.hok b u z).stay (fun y v _ w => k y v w) (fun y w => sm _ _ w) fun y xs w => sm _ _ w
theorem ps_raise {x : Str} {C : Addr} {np cpos pos : Pos} {e : Expr} {te : TE} {Ψ : Value → Hp → Prop} (r : Raises X Ψ) (q : ExK X.K C) (hm : X.mg x = some (.ref C)) (hh : X.A.handled = none) (he : PE X e te) (hg : Gl X x := by rfl) (hdb : (x == ("__debug__" : Str)) = false := by decide)
    (hs : starEach [e] X.env = (false, eval e X.env) :: starEach [] X.env := by rfl) :
    PS X (.Raise (some (.Call (.Name x np) [e] [] cpos)) none pos) (fun D σ H => te σ H fun x H1 => ([x] : List V).length ≤ 1 ∧ ∀ a, H1 a = none → Fut (upd H1 a (exO a (.ref C))) (Ψ (.ref C))) := by
  intro pins s σ H D I h
  obtain ⟨bm, N, nm, qn, bs, hd, sn, sub, ab, col, dd, k0, k1, k2, k3, k5, mN, z⟩ := exk_at I.ok.mod.kin q
  refine wpAny_Raise_call_subT (C := C) (nm := nm) (q := qn) (N := N) (bs := bs) (bm := bm) (hdct := hd) (sn := sn) (sub := sub) (ab := ab) (col := col) (dd := dd) (k0 := k0) (k1 := k1) (k2 := k2) (k3 := k3) (k5 := k5) PySem.F.excBase_ValueError (mN := mN) (z.tl.hasType (by decide)) hh (by rw [hs]; rfl) z.ini (ld_glob I hg hm ⟨rfl, ?_⟩ hdb)
  have ha := pa_cons he (pa_nil (X := X)) hs cpos pins s σ H (fun vs H1 => vs.length ≤ 1 ∧ ∀ a, H1 a = none → Fut (upd H1 a (exO a (.ref C))) (Ψ (.ref C))) I h
  rw [hs] at ha ⊢
  refine Calls.evalArgs_plain (wpAny_mono ha (fun us s2 h2 => ?_) fun _ _ y => y)
  obtain ⟨vs, H2, I2, rv, hl, q2⟩ := h2
  have kb := I2.bk
  refine ⟨rfl, by rw [← rv.length]; exact Nat.le_trans hl (by decide), kb _ _ z.obj, z.ns.keeps kb, z.tl.keeps kb, fun h' e' m => ?_⟩
  obtain ⟨t, w1, w2, w3⟩ := m.there
  obtain ⟨n1, I3⟩ := inv_exc (c := .ref C) I2 m.keeps m.new w1 ⟨rfl, rfl, _, rfl⟩
  exact r pins σ _ _ e' (.ref C) I3 ⟨upd_same, .inl ⟨_, _, .ref t, w1, ⟨rfl, rfl⟩, rfl, rfl, rfl⟩⟩ (q2 e' n1)
end
noncomputable def PsiV (cls : Addr → Addr) (Ψ : Psi) : Value → Hp → Prop := fun c H => ∃ i, c = .ref (cls i) ∧ Ψ i H
noncomputable def spX (K : PySem.W.Frag) (cls : Addr → Addr) (φ : List D → R) (n : Nat) : Sp := fun vs H Q E => ∃ F ds, Same F H ∧ Reps K F ds vs ∧ ds.length = n ∧ match φ ds with
  | .ok k d => k ≠ .bo ∧ ∀ F' v H', Post K F H k d F' v H' → Q v H'
  | .ex i => ∀ F' H', Step F H F' H' → E (.ref (cls i)) none H'
  | .no => False
structure CalleeX (P : Program) (w : World) (K : PySem.W.Frag) (mg : Str → Option Value) (base : Heap) (cls : Addr → Addr) (k : Nat) (x : Str) (n : Nat) (φ : List D → R) : Prop where
  ex : ∃ f fd ps, FnOk P w K mg base (CXe P w) k f fd ps (spX K cls φ n) ∧ Binds K fd ps [] ∧ mg x = some (.ref f) ∧ PySem.W.keepIn K (.ref f) = true
section
variable {X : Cx} {F0 H0 : Hp} {Ψ : Psi} {cls : Addr → Addr} {k n : Nat} {x : Str} {φ : List D → R} {p pos : Pos} {e : Expr} {es : List Expr} {fs : Ev → RA}
noncomputable def rxF : R → R
  | .ok .fz d => .ok .fz d
  | .ok .ow d => .ok .ow d
  | .ex i => .ex i
  | _ => .no
noncomputable def rxS : R → R
  | .ok .bo _ => .no
  | .ok _ d => if scalD d = true then .ok .fz d else .no
  | .ex i => .ex i
  | .no => .no
noncomputable def rxO (φ : List D → R) (l : List (Kd × D)) : Option (List D) → R
  | some ds => rxF (φ ds)
  | none => rxS (φ (l.map (·.2)))
noncomputable def fnRX (n : Nat) (φ : List D → R) : RA → R
  | .ok l => if l.length = n then rxO φ l (allFz l) else .no
  | .ex C => .ex C
  | .no => .no
noncomputable def eFnX (n : Nat) (φ : List D → R) (fs : Ev → RA) (ev : Ev) : R := fnRX n φ (fs ev)
theorem px_fn {pins : List (Addr × Obj)} {σ : St} {H : Hp} {s : Shared} {Q : VK} (C : CalleeX X.prog X.w X.K X.mg X.base cls k x n φ) (hr : Room k X.A) (ha : VA X F0 H0 Ψ (e :: es) fs) (I : Inv X pins σ H s)
    (hx : ∀ H1 s1 y s', Inv X pins σ H1 s1 → CXe X.prog X.w X.stack H1 s1 (fun c _ H => Fut H (PsiV cls Ψ c)) y s' → X.xe y s') (h : tV X.K F0 H0 Ψ (eFnX n φ fs) σ H Q) (hg : Gl X x := by rfl) (hdb : (x == ("__debug__" : Str)) = false := by decide)
    (he : starEach (e :: es) X.env = (false, eval e X.env) :: starEach es X.env := by rfl) (hpl : (backTo pos (starEach es X.env)).any (·.1) = false := by rfl) :
    wpAny (model X.prog X.w) X.A (eval (.Call (.Name x p) (e :: es) [] pos) X.env) (EP X pins σ Q) X.xe s := by
  obtain ⟨f, fd, ps, Fk, hb, hm, hk⟩ := C.ex
  have rd : tVA X.K F0 H0 Ψ fs σ H (fun vs H1 => spX X.K cls φ n vs H1 Q (fun c _ H => Fut H (PsiV cls Ψ c))) := by
    obtain ⟨F, ev, fi, m⟩ := h
    refine ⟨F, ev, fi, ?_⟩
    unfold eFnX at m
    cases h1 : fs ev with
    | no => rw [h1] at m; exact m
    | ex C => rw [h1] at m; exact m
    | ok l =>
      rw [h1] at m
      intro F1 vs H1 s va
      simp only [fnRX] at m
      by_cases hn : l.length = n
      · rw [if_pos hn] at m
        cases h2 : allFz l with
        | some ds =>
          rw [h2] at m
          have rs := va.fz h2
          refine ⟨F1, ds, s.sub, rs, by rw [rs.length, ← va.length]; exact hn, ?_⟩
          cases h3 : φ ds with
          | no => simp only [rxO, h3] at m; exact m
          | ex i =>
            simp only [rxO, h3] at m
            exact fun F' H' st H2 sp => ⟨i, rfl, m F' H2 ((fi.st.trans s).trans (st.trans (sp F' st.sub)))⟩
          | ok k' d =>
            simp only [rxO, h3] at m
            cases k' with
            | bo => exact m.elim
            | fz => exact ⟨by simp, fun F' v H' p => m F' v H' ⟨s.trans p.st, p.val.early s.keep⟩⟩
            | ow => exact ⟨by simp, fun F' v H' p => m F' v H' ⟨s.trans p.st, p.val.early s.keep⟩⟩
        | none =>
          rw [h2] at m
          have rs := va.rds s.sub
          refine ⟨H1, l.map (·.2), .refl _, rs, by simpa using hn, ?_⟩
          cases h3 : φ (l.map (·.2)) with
          | no => simp only [rxO, h3] at m; exact m
          | ex i =>
            simp only [rxO, h3] at m
            exact fun F' H' st H2 sp => ⟨i, rfl, m F1 H2 ((fi.st.trans s).trans ⟨.refl _, s.sub.trans (st.keep.trans (sp F' st.sub).keep), st.keep.trans (sp F' st.sub).keep, fun a o e => .inl e⟩)⟩
          | ok k' d =>
            simp only [rxO, h3] at m
            have go : k' ≠ .bo → (match (if scalD d = true then R.ok .fz d else .no) with
              | .ok k d => ∀ F' v H', Post X.K F H k d F' v H' → Q v H'
              | .ex C => ∀ F' H', Step F0 H0 F' H' → Ψ C H'
              | .no => False) → k' ≠ .bo ∧ ∀ F' v H', Post X.K H1 H1 k' d F' v H' → Q v H' := fun nb m => by
              by_cases hs : scalD d = true
              · rw [if_pos hs] at m
                exact ⟨nb, fun F' v H' p => m F1 v H' ⟨s.trans ⟨.refl _, s.sub.trans p.st.keep, p.st.keep, fun a o e => .inl e⟩, scal_rep hs p.val.rd⟩⟩
              · rw [if_neg hs] at m; exact m.elim
            cases k' with
            | bo => exact m.elim
            | fz => exact go (by simp) m
            | ow => exact go (by simp) m
      · rw [if_neg hn] at m; exact m.elim
  refine wpAny_Call_Name_kw (ld_glob I hg hm ?_ hdb)
  refine PySem.W.callWith_K (h₀ := X.base) I.ok.mod.kin hk (thn (ha pos pins s σ H _ I rd) fun us s1 ⟨vs, H1, I1, r, q⟩ => ⟨I1.kIn, ?_⟩) he hpl
  have hl : us.length = ps.length := by rw [← r.length]; exact Fk.len _ _ _ _ q
  refine wpAny_call (codeAny_mono (Fk.run X.A X.stack s1 H1 ⟨us, []⟩ us vs Q _ hr I1.env0 (by have := hb s1 us I1.kIn (by simpa using hl); simpa using this) r q) fun r s' hq => ?_)
  cases r with
  | error e => exact hx H1 s1 e s' I1 hq
  | ok fl =>
    cases fl with
    | ret u => exact I1.after hq
    | next => exact False.elim hq
    | brk => exact False.elim hq
    | cont => exact False.elim hq
theorem v_fnX (r : Raises X (PsiV cls Ψ)) (C : CalleeX X.prog X.w X.K X.mg X.base cls k x n φ) (hr : Room k X.A) (ha : VA X F0 H0 Ψ (e :: es) fs) (hg : Gl X x := by rfl) (hdb : (x == ("__debug__" : Str)) = false := by decide)
    (he : starEach (e :: es) X.env = (false, eval e X.env) :: starEach es X.env := by rfl) (hpl : (backTo pos (starEach es X.env)).any (·.1) = false := by rfl) :
    VE X F0 H0 Ψ (.Call (.Name x p) (e :: es) [] pos) (eFnX n φ fs) := fun pins s σ H Q I h =>
  px_fn C hr ha I (fun H1 s1 y s' I1 q => passE r pins σ H1 s1 y s' I1 q) h hg hdb he hpl
noncomputable def tM (K : PySem.W.Frag) (F0 H0 : Hp) (p : Ev → Bool) : TE := fun σ H Q => ∃ F ev, FI K F0 H0 F H ev σ ∧ p ev = true ∧ ∀ F' v H', Step F H F' H' → Q v H'
noncomputable def VM (X : Cx) (F0 H0 : Hp) (e : Expr) (p : Ev → Bool) : Prop := PE X e (tM X.K F0 H0 p)
noncomputable def raiseG (i : Addr) (p : Ev → Bool) (ev : Ev) : Fl := if p ev = true then .ex i else .no
theorem vs_raise {x : Str} {np cpos pos : Pos} {e : Expr} {q : Ev → Bool} (i : Addr) (r : Raises X (PsiV cls Ψ)) (hk : ExK X.K (cls i)) (hm : X.mg x = some (.ref (cls i))) (hh : X.A.handled = none) (he : VM X F0 H0 e q) (hg : Gl X x := by rfl) (hdb : (x == ("__debug__" : Str)) = false := by decide)
    (hs : starEach [e] X.env = (false, eval e X.env) :: starEach [] X.env := by rfl) : VS X F0 H0 Ψ (.Raise (some (.Call (.Name x np) [e] [] cpos)) none pos) (raiseG i q) :=
  (ps_raise r hk hm hh he hg hdb hs).mono fun D σ H ⟨F, ev, fi, m⟩ => by
    unfold raiseG at m
    by_cases c : q ev = true
    · rw [if_pos c] at m
      refine ⟨F, ev, fi, c, fun F' v H' st => ⟨by simp, fun a n H2 sp => ⟨i, rfl, ?_⟩⟩⟩
      have s2 := step_upd (o := exO a (.ref (cls i))) st.sub n
      exact m F' H2 (fi.st.trans (st.trans (s2.trans (sp F' s2.sub))))
    · rw [if_neg c] at m; exact m.elim
noncomputable def JP (X : Cx) (F0 H0 : Hp) (es : List Expr) (p : Ev → Bool) (n : Nat) : Prop := ∀ (acc : Str) (pins : List (Addr × Obj)) (s : Shared) (σ : St) (H F : Hp) (ev : Ev) (Q : Value → Shared → Prop), Inv X pins σ H s → FI X.K F0 H0 F H ev σ → p ev = true → acc.length + n ≤ sizeLine →
  (∀ y t F' H' s', Step F H F' H' → Inv X pins σ H' s' → Q (.str y t) s') → wpAny (model X.prog X.w) X.A (joinParts acc (evalEach es X.env)) Q X.xe s
noncomputable def VP (X : Cx) (F0 H0 : Hp) (e : Expr) (p : Ev → Bool) (n : Nat) : Prop := ∀ (pins : List (Addr × Obj)) (s : Shared) (σ : St) (H F : Hp) (ev : Ev), Inv X pins σ H s → FI X.K F0 H0 F H ev σ → p ev = true →
  wpAny (model X.prog X.w) X.A (eval e X.env) (fun v s' => ∃ y t F' H', v = .str y t ∧ y.length ≤ n ∧ Step F H F' H' ∧ Inv X pins σ H' s') X.xe s
theorem jp_nil : JP X F0 H0 [] (fun _ => true) 0 := fun acc pins s σ H F ev Q I fi _ hl h =>
  PyProof.Rows.joinParts_nil (h acc _ F H _ fi.refl (I.tok _)) (by omega)
theorem jp_cons {p q : Ev → Bool} {m l : Nat} (h1 : VP X F0 H0 e p m) (h2 : JP X F0 H0 es q l) : JP X F0 H0 (e :: es) (fun ev => p ev && q ev) (m + l) := fun acc pins s σ H F ev Q I fi hp hl h => by
  rw [Bool.and_eq_true] at hp
  refine PyProof.Rows.joinParts_cons (thn (h1 pins s σ H F ev I fi hp.1) fun v s1 ⟨y, t, F1, H1, e1, l1, st, I1⟩ => ?_)
  subst e1
  have ll : (acc ++ y).length = acc.length + y.length := strLen_append _ _
  exact ⟨by omega, h2 (acc ++ y) pins s1 σ H1 F1 ev Q I1 (fi.later st) hp.2 (by omega) fun y t F' H' s' st' I' => h y t F' H' s' (st.trans st') I'⟩
theorem vm_join {e2 : Expr} {p : Ev → Bool} {l : Nat} (h : JP X F0 H0 (e :: e2 :: es) p l) (hl : l ≤ sizeLine := by decide) : VM X F0 H0 (.JoinedStr (e :: e2 :: es) pos) p := fun pins s σ H Q I ⟨F, ev, fi, hp, q⟩ =>
  PyProof.Rows.JoinedStr_many (h Str.empty pins s σ H F ev _ I fi hp (by show 0 + l ≤ _; omega) fun y t F' H' s' st I' => ⟨.str y, H', I', ⟨t, rfl⟩, q F' _ H' st⟩)
theorem vp_str {x : Str} {kk} (n : Nat) (hx : x.length ≤ n := by decide) : VP X F0 H0 (.Constant (.str x) kk pos) (fun _ => true) n := fun pins s σ H F ev I fi _ =>
  thn (pe_str pins s σ H (fun v H' => v = .str x ∧ H' = H) I ⟨rfl, rfl⟩) fun u s' ⟨v, H', I', r, e1, e2⟩ => by
    subst e1; subst e2
    obtain ⟨t, rfl⟩ := (show ∃ t, u = Value.str x t from r)
    exact ⟨x, t, F, H', rfl, hx, fi.refl, I'⟩
noncomputable def intOkR : R → Bool
  | .ok _ (.int i) => decide (i.natAbs.log2 < 1920)
  | _ => false
theorem vp_int {f : Ev → R} (hv : VE X F0 H0 Ψ e f) : VP X F0 H0 (.FormattedValue e (-1) none pos) (fun ev => intOkR (f ev)) 1921 := fun pins s σ H F ev I fi hp => by
  dsimp only at hp
  refine PyProof.Rows.FormattedValue_plain (thn (hv pins s σ H (fun v H' => ∃ i F', v = .int i ∧ i.natAbs.log2 < 1920 ∧ Step F H F' H') I ⟨F, ev, fi, ?_⟩) fun u s' ⟨v, H', I', r, i, F', e1, e2, st⟩ => ?_)
  · cases h1 : f ev with
    | no => rw [h1] at hp; cases hp
    | ex C => rw [h1] at hp; cases hp
    | ok k d =>
      rw [h1] at hp
      cases d with
      | int i => exact fun F' v H' p => ⟨i, F', p.val.rd.int, by simpa [intOkR] using hp, p.st⟩
      | _ => cases hp
  · subst e1
    obtain ⟨t, rfl⟩ := (show ∃ t, u = Value.int i t from r)
    refine PyProof.Rows.formatField_int_small e2 ⟨_, _, F', H', rfl, ?_, st, I'.tok _⟩
    have := int_text_length_le (a := i) (k := 1920) (by decide) e2
    show (Str.ofString (toString i)).length ≤ 1921
    rw [ofString_length]; omega
theorem tup_rd {K : PySem.W.Frag} {F H : Hp} {l : List D} {v : V} (s : Same F H) (h : RdV K F H (.tup l) v) : ∃ a, v = .ref a ∧ Rep K H (.tup l) v := by
  rcases h with h | ⟨a, e, c⟩
  · have h' := h.mono s
    rw [Rep] at h
    obtain ⟨a, vs, e, _⟩ := h
    exact ⟨a, e, h'⟩
  · exact c.elim
noncomputable def shO : Option PyData → Bool
  | some p => p.showable && !p.hasDict && decide (p.shown.length ≤ 10000) && decide (p.depth ≤ 50)
  | none => false
theorem shO_t {o : Option PyData} (h : shO o = true) : ∃ p, o = some p ∧ p.showable = true ∧ p.hasDict = false ∧ p.shown.length ≤ 10000 ∧ p.depth ≤ 50 := by
  cases o with
  | none => cases h
  | some p =>
    simp only [shO, Bool.and_eq_true, decide_eq_true_eq, Bool.not_eq_true'] at h
    exact ⟨p, rfl, h.1.1.1, h.1.1.2, h.1.2, h.2⟩
noncomputable def repOkR : R → Bool
  | .ok _ (.tup l) => shO (py (.tup l))
  | _ => false
theorem vp_rep {f : Ev → R} (hv : VE X F0 H0 Ψ e f) (hg : X.A.guards = some []) (hu : X.A.units + 64 < cLine) : VP X F0 H0 (.FormattedValue e 114 none pos) (fun ev => repOkR (f ev)) 10000 := fun pins s σ H F ev I fi hp => by
  dsimp only at hp
  refine wpAny_FormattedValue_repr (thn (hv pins s σ H (fun v H' => ∃ a l p F', v = .ref a ∧ py (.tup l) = some p ∧ p.showable = true ∧ p.hasDict = false ∧ p.shown.length ≤ 10000 ∧ p.depth ≤ 50 ∧ Rep X.K H' (.tup l) v ∧ Step F H F' H') I ⟨F, ev, fi, ?_⟩) fun u s' ⟨v, H', I', r, a, l, p, F', e1, e2, e3, e4, e5, e6, e7, st⟩ => ?_)
  · cases h1 : f ev with
    | no => rw [h1] at hp; cases hp
    | ex C => rw [h1] at hp; cases hp
    | ok k d =>
      rw [h1] at hp
      cases d with
      | tup l =>
        obtain ⟨p, z1, z2, z3, z4, z5⟩ := shO_t hp
        intro F' v H' q
        obtain ⟨a, z6, z7⟩ := tup_rd q.st.sub q.val.rd
        exact ⟨a, l, p, F', z6, z1, z2, z3, z4, z5, z7, q.st⟩
      | _ => cases hp
  · subst e1
    obtain rfl : u = Value.ref a := r
    obtain ⟨as, rd, _⟩ := e7.reads I' rfl e2
    refine pyReprObj_of_reads rd e3 (fun z => by rw [e4] at z; cases z) hg (by omega) (fun _ _ z => z) (fun h' t tk kp => ?_) (Nat.le_trans e5 (by decide))
    refine PyProof.Rows.formatField_str (fun t' tk' => ⟨_, _, F', H', rfl, e5, st, ?_⟩) (Nat.le_trans e5 (by decide))
    exact (I'.kept (t' := tk') kp)
end
section
variable {P : Program} {w : World} {K : PySem.W.Frag} {mg : Str → Option Value} {base : Heap} {cls : Addr → Addr}
theorem Raises.imp {X : Cx} {p q : Value → Hp → Prop} (r : Raises X p) (h : ∀ c H, q c H → p c H) : Raises X q := fun pins σ H s a c I t f => r pins σ H s a c I t fun H' sp => h _ _ (f H' sp)
theorem fn_okX {x qual : Str} {st : Stmt} {f : Addr} {fd : FuncData} {N ps : List Str} {k : Nat} {g : Ev → Fl} (F : Fun K x qual st f fd) (S : FnScope N ps (defScope st))
    (hb : ∀ (cdv : Value) (A : Around) (outer : List Env) (s : Shared) (H : Hp) (E : XK) (F0 : Hp), Room k (A.deeper (PyProof.Rows.envOfC qual (defScope st) s.heap.objs.size f cdv)) →
      Raises (cxOf (CXe P w) P w K mg base N qual (defScope st) f cdv A outer s H E) (PsiV cls fun i H' => E (.ref (cls i)) none H') →
      VSs (cxOf (CXe P w) P w K mg base N qual (defScope st) f cdv A outer s H E) F0 H (fun i H' => E (.ref (cls i)) none H') (defBody st) g) :
    FnOk P w K mg base (CXe P w) (k + 1) f fd ps (spX K cls (runF (N.length - ps.length) g) ps.length) := by
  obtain ⟨oc, od, kV, doc, pm, an, cdv, ct, osl, rfl, lk, hcd⟩ := F.ex
  refine fn_of lk hcd S (fun vs H Q E h => ?_) fun A outer s H vs Q E hr h => ?_
  · obtain ⟨F, ds, _, r, hl, _⟩ := h
    rw [← r.length]; exact hl
  · obtain ⟨F, ds, sub, r, hl, m⟩ := h
    refine ⟨_, hb cdv A outer s H E F hr (raises_def.imp fun c H ⟨i, e, q⟩ => by rw [e]; exact q), F, ev0 (N.length - ps.length) ds, by rw [← hl]; exact .start sub r, ?_⟩
    unfold runF at m
    cases q : g (ev0 (N.length - ps.length) ds) with
    | nx ev => rw [q] at m; exact fun F' H' σ' _ fi => m.2 F' .non H' ⟨fi.st, by rw [Val, Rep]⟩
    | rt k d =>
      rw [q] at m
      cases k with
      | bo => exact m.elim
      | fz => exact m.2
      | ow => exact m.2
    | bk ev => rw [q] at m; exact m.elim
    | ct ev => rw [q] at m; exact m.elim
    | ex C => rw [q] at m; exact m
    | no => rw [q] at m; exact m.elim
end
end L3
set_option Elab.async false
set_option linter.all false
set_option maxRecDepth 100000
namespace L3
open PySem L2
section
variable {X : Cx} {pins : List (Addr × Obj)} {σ : St} {H : Hp} {s : Shared}
theorem goes_ok {M : Model} {A : Around} {E : Value → Shared → Prop} {i : Nat} {n : Str} {pos : Pos} {Q : Unit → Shared → Prop} (I : Inv X pins σ H s) (hN : X.N.Nodup) (hi : X.N[i]? = some n) (hl : X.env.scope.names.lookup n = some .local)
    (h : ∀ s', Inv X pins (σ.set i none) H s' → Q () s') : wpAny M A (do bindName X.env n .none; unbindBehindTheSuite X.env n pos) Q E s := by
  obtain ⟨m, hn, hv⟩ := id I.loc
  obtain ⟨oL, _, _, hoL, _⟩ := id hn
  refine wpAny_nameGoes_keeps hl hn (by rw [I.ok.kind]; rfl) fun h' v hn' hs => h _ ?_
  have lt : ∀ b o, X.s₀.heap.get? b = some o → b ≠ X.env.locals := fun b o e => Nat.ne_of_lt (Nat.lt_of_lt_of_le (Heap.lt_size e) I.ok.above)
  have iσ : i < σ.length := by rw [I.len]; exact (List.getElem?_eq_some_iff.mp hi).1
  refine ⟨I.ok, I.os, I.bare, ⟨fun b o e z hb hx => (hs.2 b (lt b o e)).trans (I.base.keep b o e z hb hx), fun b o e z hb hx => ?_, I.base.free, fun b o e hx => ?_, I.base.tups, I.base.frzs, I.base.tbls⟩, ⟨_, hn', fun j y w e1 e2 e3 => ?_⟩, fun y c e => ?_, I.free, I.freeC, fun p hp => ?_, fun b u e => ?_, by simpa using I.len⟩
  · obtain ⟨sl, e1⟩ := I.base.slot b o e z hb hx
    exact ⟨sl, (hs.2 b (lt b o e)).trans e1⟩
  · obtain ⟨o', e1⟩ := I.base.there b o e hx
    exact ⟨o', (hs.2 b (lt b o e)).trans e1⟩
  · by_cases hj : j = i
    · rw [hj, List.getElem?_set_self iσ] at e2; cases e2
    · rw [List.getElem?_set_ne (Ne.symm hj)] at e2
      obtain ⟨u, r, q⟩ := hv j y w e1 e2 e3
      refine ⟨u, r, ?_⟩
      rcases q with ⟨k, e⟩ | ⟨k, c, e, z⟩
      · have : y ≠ n := fun q => hj (nodup_ix hN e1 (q ▸ hi))
        exact .inl ⟨k, by simp [this, e]⟩
      · exact .inr ⟨k, c, e, z.sameBut hs (I.cne y c e)⟩
  · obtain ⟨w, z⟩ := I.cell y c e
    exact ⟨w, z.sameBut hs (I.cne y c e)⟩
  · obtain ⟨e, z, ne, nf, d⟩ := I.pin p hp
    exact ⟨(hs.2 p.1 ne).trans e, z, ne, nf, d⟩
  · refine (I.hok b u e).stay (fun c w hc q => (hs.2 c ?_).trans q) (fun _ q => q) fun _ _ q => q
    intro z
    rcases hc with r | r
    · rw [← r, z, I.free] at e; cases e
    · rw [z, I.free] at r; cases r
noncomputable abbrev mkX (X : Cx) (e : Value) (E : Value → Shared → Prop) : Cx := { X with A := X.A.mark (some e), calm := false, xe := E }
theorem inv_inH (I : Inv X pins σ H s) (e : Value) (E : Value → Shared → Prop) : Inv (mkX X e E) pins σ H s :=
  ⟨⟨I.ok.mod, I.ok.kind, I.ok.glob, I.ok.blt, I.ok.above, I.ok.inj, I.ok.has, I.ok.cab, fun z => (by cases z), I.ok.frames, I.ok.stk, I.ok.exf, I.ok.bs, I.ok.bsz, I.ok.noex, I.ok.exfs, I.ok.funs, I.ok.frf⟩, I.os, I.bare, I.base, I.loc, I.cell, I.free, I.freeC, I.pin, I.hok, I.len⟩
theorem inv_outH {e : Value} {E : Value → Shared → Prop} (ok : X.Ok) (I : Inv (mkX X e E) pins σ H s) : Inv X pins σ H s := ⟨ok, I.os, I.bare, I.base, I.loc, I.cell, I.free, I.freeC, I.pin, I.hok, I.len⟩
theorem handle_ok {i j : Nat} {a C HE : Addr} {a0 : Value} {n y kx : Str} {np kp vp apos pos : Pos} {rest : List ExceptHandler} {Q : Flow → Shared → Prop} {E : Value → Shared → Prop} (I : Inv X pins σ H s) (ta : H a = some (exO a (.ref C))) (t : TrcA .none s.heap H a (.ref C) a0)
    (hN : X.N.Nodup) (hi : X.N[i]? = some n) (hl : X.env.scope.names.lookup n = some .local) (hj : X.N[j]? = some kx) (hk : X.env.scope.names.lookup kx = some .local) (hg : Gl X y) (hm : X.mg y = some (.ref HE)) (he : PySem.W.exmOne X.K (.ref C) (.ref HE) = some true)
    (h : ∀ s', Inv X pins (((σ.set i (some (.ref a))).set j (some (.ref a))).set i none) H s' → Q .next s') (hdb : (y == ("__debug__" : Str)) = false := by decide) (hd2 : (n == ("__debug__" : Str)) = false := by decide) (hcd : (n == ("__classdict__" : Str)) = false := by decide)
    (hsw : ∀ E, swapsWith (.Name n vp) (some (.Name kx kp)) apos.line (mkX X (.ref a) E).env = pure false := by intro _; rfl) :
    wpAny (model X.prog X.w) X.A (handleBy (.ref a) X.env (.ExceptHandler (some (.Name y np)) (some n) [.Assign [.Name kx kp] (.Name n vp) apos] pos :: rest)) Q E s := by
  refine wpAny_handleBy_cons (codeAny_handlers_test ?_) (by intro q; cases q)
  refine ld_glob (X := mkX X (.ref a) (fun _ _ => True)) (inv_inH I _ _) hg hm ?_ hdb
  obtain ⟨oe, vs, T, oT, ts, e1, ⟨e2, _⟩, rt⟩ := id t
  have LT : PySem.W.Looks (model X.prog X.w) s.heap (typeOf (.ref a)) (.ref C) := by
    rw [← e2]; exact (PySem.W.Looks.ld e1).andThen .now
  refine (PySem.W.exm_one I.kIn LT he).here ?_
  refine codeAny_handlers_suite_as ?_
  refine land_ok I ta t fun h1 I1 t1 => ?_
  refine store_ok I1 hN hi (.inl hl) (v := .ref a) rfl (fun s2 I2 => ?_) (.inr hl)
  have iσ : i < σ.length := by rw [I.len]; exact (List.getElem?_eq_some_iff.mp hi).1
  refine wpAny_mono (pss_one (ps_set (X := mkX X (.ref a) fun _ _ => False) hN hj (.inl hk) (pe_var hi (.inl hl) hd2 hcd) (hsw _) (.inr hk)) pins s2 _ H { nx := fun σ' H' => σ' = (σ.set i (some (.ref a))).set j (some (.ref a)) ∧ H' = H, rt := fun _ _ => False } (inv_inH I2 _ _) ?_) (fun f s3 q => ?_) fun _ _ z => False.elim z
  · exact ⟨.ref a, List.getElem?_set_self iσ, rfl, rfl⟩
  · cases f with
    | next =>
      obtain ⟨σ', H', I3, z1, z2⟩ := q
      subst z1; subst z2
      exact goes_ok (inv_outH I.ok I3) hN hi hl fun s' I4 => h s' I4
    | brk => obtain ⟨_, _, _, q⟩ := q; exact q.elim
    | cont => obtain ⟨_, _, _, q⟩ := q; exact q.elim
    | ret u => obtain ⟨_, _, _, _, _, q⟩ := q; exact q.elim
theorem ps_try {F0 H0 : Hp} {cls : Addr → Addr} {k n i j : Nat} {HE : Addr} {x nn y kx : Str} {φ : List D → R} {p pos1 pos2 np kp vp apos hpos tpos : Pos} {e : Expr} {es : List Expr} {fs : Ev → RA} (hst : X.stack = X.env :: X.outer) (hfr : X.env.frame = some X.env.locals)
    (C : CalleeX X.prog X.w X.K X.mg X.base cls k x n φ) (hr : Room k X.A) (ha : ∀ E Ψ, VA (X.wish E) F0 H0 Ψ (e :: es) fs) (hN : X.N.Nodup) (hi : X.N[i]? = some nn) (hl : X.env.scope.names.lookup nn = some .local) (hj : X.N[j]? = some kx) (hk : X.env.scope.names.lookup kx = some .local)
    (hg : Gl X y) (hm : X.mg y = some (.ref HE)) (he : ∀ q, PySem.W.exmOne X.K (.ref (cls q)) (.ref HE) = some true) (hgx : Gl X x := by rfl) (hdx : (x == ("__debug__" : Str)) = false := by decide)
    (hse : starEach (e :: es) X.env = (false, eval e X.env) :: starEach es X.env := by rfl) (hpl : (backTo pos1 (starEach es X.env)).any (·.1) = false := by rfl) (hsx : swapsWith (.Call (.Name x p) (e :: es) [] pos1) none pos2.line X.env = pure false := by rfl)
    (hdb : (y == ("__debug__" : Str)) = false := by decide) (hd2 : (nn == ("__debug__" : Str)) = false := by decide) (hcd : (nn == ("__classdict__" : Str)) = false := by decide) (hsw : swapsWith (.Name nn vp) (some (.Name kx kp)) apos.line X.env = pure false := by rfl) :
    PS X (.Try [.Expr (.Call (.Name x p) (e :: es) [] pos1) pos2] [.ExceptHandler (some (.Name y np)) (some nn) [.Assign [.Name kx kp] (.Name nn vp) apos] hpos] [] [] tpos) (fun D σ H => ∃ F ev, FI X.K F0 H0 F H ev σ ∧ match eFnX n φ fs ev with
      | .ok _ _ => ∀ F' H', Step F H F' H' → D.nx σ H'
      | .ex q => ∀ F' H' a, Step F0 H0 F' H' → H' a = some (exO a (.ref (cls q))) → D.nx (((σ.set i (some (.ref a))).set j (some (.ref a))).set i none) H'
      | .no => False) := by
  intro pins s σ H D I ⟨F, ev, fi, m⟩
  have key : ∀ Ex : Value → Shared → Prop, (∀ H1 s1 y s', Inv (X.wish Ex) pins σ H1 s1 → CXe X.prog X.w X.stack H1 s1 (fun c _ H => Fut H (PsiV cls (fun q H' => ∀ a, H' a = some (exO a (.ref (cls q))) → D.nx (((σ.set i (some (.ref a))).set j (some (.ref a))).set i none) H') c)) y s' → Ex y s') →
      wpAny (model X.prog X.w) X.A (eval (.Call (.Name x p) (e :: es) [] pos1) X.env) (EP (X.wish Ex) pins σ fun _ H' => D.nx σ H') Ex s := fun Ex hx => by
    refine px_fn (X := X.wish Ex) (Q := fun _ H' => D.nx σ H') (Ψ := fun q H' => ∀ a, H' a = some (exO a (.ref (cls q))) → D.nx (((σ.set i (some (.ref a))).set j (some (.ref a))).set i none) H') C hr (ha _ _) (I.wish _) hx ⟨F, ev, fi, ?_⟩ hgx hdx hse hpl
    cases h1 : eFnX n φ fs ev with
    | no => rw [h1] at m; exact m
    | ex q => rw [h1] at m; exact fun F' H' st a ea => m F' H' a st ea
    | ok k d => rw [h1] at m; exact fun F' v H' p => m F' H' p.st
  refine wpAny_Try_except (wpAny_execs_cons (thn (wpAny_Expr_any (Q := SP X pins D) (thn (key _ ?_) fun v s1 z => ?_) I.quiet hsx) fun f s1 q => ?_))
  · rintro H1 s1 y s' I1 ⟨a, c, H', e1, e2, e3, e4, e5, e6, ⟨a0, e8⟩, e7⟩
    subst e1
    have I' : Inv X pins σ H' s' := I1.unwish.call' (ch := []) e2 e4 e5 e3 fun b z => nomatch z
    obtain ⟨q, z, _⟩ := e7.now
    subst z
    refine note_ok hst hfr I' ⟨e6, .inr ⟨a0, e8⟩⟩ fun h2 H2 a1 I2 ta2 t2 sp => ?_
    refine land_ok I2 ta2 t2 fun h3 I3 t3 => ?_
    refine handle_ok I3 ta2 t3 hN hi hl hj hk hg hm (he q) (fun s5 I5 => ?_) hdb hd2 hcd fun _ => hsw
    obtain ⟨q', z, h7⟩ := e7 H2 sp
    exact ⟨_, H2, I5, h7 a (by rw [← z]; exact ta2)⟩
  · obtain ⟨x, H1, I1, r1, q1⟩ := z
    exact ⟨σ, H1, I1.unwish, q1⟩
  · cases f with
    | next => exact wpAny_execs_nil (wpAny_execs_nil q)
    | ret v => exact q
    | brk => exact q
    | cont => exact q
end
end L3
set_option Elab.async false
set_option linter.all false
set_option maxRecDepth 100000
namespace L3
open PySem L2
structure ExcC (K : PySem.W.Frag) (C : Addr) : Prop where
  hc : (PySem.W.clsIn K C).isSome = true
  ga : PySem.W.findIn K (.ref C) "__getattribute__" = some (some (.builtin "BaseException.__getattribute__"))
  gt : PySem.W.findIn K (.ref C) "__getattr__" = some none
  be : PySem.W.mroIn K C (.type "BaseException") = some true
  ob : PySem.W.mroIn K C (.type "object") = some true
  ha : PySem.W.findIn K (.ref C) "__class__" = some (some (.builtin "object.__class__"))
  hn : PySem.W.specialIn K (.builtin "object.__class__") "__get__" = some (some (.builtin "getset_descriptor.__get__"))
  htk : PySem.W.takesIn K (.builtin "object.__class__") = some true
theorem exc_inst {h : Heap} {a C : Addr} {o : Obj} (e : h.get? a = some o) (x : ExObj o (.ref C)) : PySem.W.InstAt h a o C none := by
  obtain ⟨x1, x2, vs, x3⟩ := x
  refine ⟨e, x1, by unfold PySem.W.notCls; rw [x3], ?_⟩
  rw [x2]; trivial
section
variable {prog : Program} {w : World} {A : Around} {E : Value → Shared → Prop} {K : PySem.W.Frag} {a C : Addr} {o : Obj}
theorem exc_check {M : Model} {v : Value} {Q : Unit → Shared → Prop} {s : Shared} (X : K.In s.heap) (I : PySem.W.InstAt s.heap a o C none) (c : ExcC K C) (q : Q () s) : wpAny M A (checkBuiltinCall "BaseException.__getattribute__" ⟨[.ref a, v], []⟩) Q E s := by
  obtain ⟨h0, g0, d0, t0, o0⟩ := s
  have y1 : builtinKind "BaseException.__getattribute__" = some .slot := by decide +kernel
  have y2 : splitId "BaseException.__getattribute__" = some ("BaseException", "__getattribute__") := by decide +kernel
  have y3 := F.args_bexc_ga (.ref a) v
  have L0 := I.type (M := M)
  have L1 := PySem.W.looks_mroIn (M := M) X c.be
  simp only [checkBuiltinCall, y1, y2]
  refine wpAny_bind ?_
  · unfold isInstance
    refine wpAny_bind (L0.at (L1.at ?_))
    repeat (first | assumption | wp_step)
theorem exc_ca {Q : Option Value → Shared → Prop} {s : Shared} (X : K.In s.heap) (I : PySem.W.InstAt s.heap a o C none) (c : ExcC K C) (q : Q (some (.ref C)) { s with toks := s.toks + 1 }) : wpAny (model prog w) A (getAttr? (.ref a) "__class__") Q E s := by
  obtain ⟨h0, g0, d0, t0, o0⟩ := s
  have L0 := I.type (M := model prog w)
  have L1 := PySem.W.looks_findIn (M := model prog w) X c.ga
  have L2 := PySem.W.looks_findIn (M := model prog w) X c.gt
  have fo : PySem.W.findObj K C none "__class__" = some (.bind (.builtin "getset_descriptor.__get__") (.builtin "object.__class__")) := by
    obtain ⟨cd, hc⟩ := Option.isSome_iff_exists.mp c.hc
    unfold PySem.W.findObj
    rw [hc, Option.bind_some, c.ha, Option.bind_some]
    simp [c.hn, c.htk]
  have L3 := PySem.W.looks_find (M := model prog w) X I fo
  have bd := F.attr_ValueError.ga.bind (.ref a)
  have nb : (Value.builtin "BaseException.__getattribute__" == Value.builtin "object.__getattribute__") = false := by decide +kernel
  unfold getAttr? getAttrBy? getAttrBy
  refine wpAny_bind (wpAny_mkText (wpAny_bind (wpAny_attempt (wpAny_holding (wpAny_bind (L0.at (wpAny_bind (L1.at ?_))))))))
  dsimp only
  rw [nb, Bool.and_false, if_neg (by decide)]
  unfold getAttrByItsOwn hookBefore
  refine wpAny_bind ?_
  rw [if_pos (by rfl)]
  refine L2.at ?_
  unfold callGetattribute
  refine wpAny_bind (wpAny_attempt (wpAny_holding ?_))
  rw [if_neg (by decide)]
  unfold boundAndCalled
  refine wpAny_bind (wpAny_of_eq bd ?_)
  dsimp only
  refine wpAny_call (codeAny_call_builtin F.attr_ValueError.ga.plain F.entry_bexc_ga (exc_check X I c ?_))
  have L3 := L3.keeps (h' := h0) fun _ _ z => z
  have L0 := L0.keeps (h' := h0) fun _ _ z => z
  repeat (any_goals (first | assumption | with_reducible refine L0.at ?_ | with_reducible refine L3.at ?_ | wp_step))
  refine PySem.W.class_get (ox := o) (od := none) X I c.ob ?_
  refine wpAny_pure ?_
  exact PySem.W.handed_on rfl (wpAny_pure q)
theorem kitx_exc (c : ExcC K C) : PySem.W.KitX K (.ref a) (.ref C) (fun h => ∃ o, h.get? a = some o ∧ ExObj o (.ref C)) where
  ty := fun M h X ⟨o, e, x⟩ => (exc_inst e x).type
  it := fun M h X _ => by
    obtain ⟨cd, z⟩ := Option.isSome_iff_exists.mp c.hc
    unfold PySem.W.clsIn at z
    split at z
    · rename_i y1 y2 y3 y4 ho
      intro A' Q' E' s' k q
      unfold isType loadHead
      exact wpAny_bind (wpAny_loadPart (k _ _ (X _ _ ho)) (wpAny_pure q))
    · cases z
  ne := fun h tp dd its n sl X ht => by
    obtain ⟨cd, z⟩ := Option.isSome_iff_exists.mp c.hc
    refine Bool.eq_false_iff.mpr fun q => ?_
    have e : C = tp := Value.ref.inj (beq_iff_eq.mp q)
    subst e
    unfold PySem.W.clsIn at z
    split at z
    · rename_i y1 y2 y3 y4 ho
      have y := (X _ _ ho).symm.trans ht
      cases y
    · cases z
  ca := fun X ⟨o, e, x⟩ k => exc_ca X (exc_inst e x) c k
end
section
variable {X : Cx} {F0 H0 : Hp} {Ψ : Psi} {s : Str} {p p2 pos : Pos}
noncomputable def rIsX (K : PySem.W.Frag) : List V → Hp → VK → Prop := fun xs H Q => ∃ a C v b, xs = [.ref a, v] ∧ H a = some (exO a (.ref C)) ∧ ExcC K C ∧ Q (.bl b) H ∧
  ((∃ u, RelV v u ∧ (∀ u', RelV v u' → u' = u) ∧ PySem.W.kitOne K (.ref C) u = some b) ∨ ∃ tp vs us, v = .ref tp ∧ H tp = some (.tup vs) ∧ Vals vs us ∧ (∀ us', Vals vs us' → us' = us) ∧ PySem.W.kitAny K (.ref C) us = some b)
theorem call_isX : CallR X (.builtin "isinstance") (rIsX X.K) := by
  intro pins s σ H xs us Q I r h
  obtain ⟨a, C, v, b, rfl, ha, c, q, h⟩ := h
  obtain ⟨u, w', rfl, rx, rw'⟩ := vals2 r
  cases (show u = Value.ref a from rx)
  obtain ⟨hx, _, _⟩ := (show ObjOk X.prog X.w H s.heap a (exO a (.ref C)) from I.hok a _ ha)
  rcases h with ⟨u, _, h2, h3⟩ | ⟨tp, vs, us, rfl, h2, h3, h4, h5⟩
  · obtain rfl := h2 _ rw'
    exact PySem.W.kia_one (kitx_exc c) I.kIn hx h3 (fun z => nomatch z) fun tk => ⟨.bl b, H, I.tok tk, rfl, q⟩
  · cases (show w' = Value.ref tp from rw')
    obtain ⟨_, its, rv, o, e1, e2, n, e3⟩ := (show ObjOk X.prog X.w H s.heap tp (.tup vs) from I.hok tp _ h2)
    obtain rfl := h4 _ rv
    obtain ⟨c0, d0, x0, s0⟩ := o
    dsimp only at e2 e3
    subst e2; subst e3
    exact PySem.W.kia_tup (kitx_exc c) I.kIn hx e1 h5 (fun z => nomatch z) fun tk => ⟨.bl b, H, I.tok tk, rfl, q⟩
end
end L3
set_option Elab.async false
set_option linter.all false
set_option maxRecDepth 100000
namespace L3
open PySem L2
section
variable {X : Cx} {F0 H0 : Hp} {Ψ : Psi} {cls : Addr → Addr} {e e2 : Expr} {es : List Expr} {p q : Ev → Bool} {f : Ev → R} {m l : Nat} {pos : Pos}
noncomputable def pT (_ : Ev) : Bool := true
noncomputable def pAnd (p q : Ev → Bool) (ev : Ev) : Bool := p ev && q ev
noncomputable def pInt (f : Ev → R) (ev : Ev) : Bool := intOkR (f ev)
noncomputable def pRep (f : Ev → R) (ev : Ev) : Bool := repOkR (f ev)
theorem jpn : JP X F0 H0 [] pT 0 := jp_nil
theorem jpc (h1 : VP X F0 H0 e p m) (h2 : JP X F0 H0 es q l) : JP X F0 H0 (e :: es) (pAnd p q) (m + l) := jp_cons h1 h2
theorem vps {x : Str} {kk} (n : Nat) (hx : x.length ≤ n := by decide) : VP X F0 H0 (.Constant (.str x) kk pos) pT n := vp_str n hx
theorem vpi (hv : VE X F0 H0 Psi0 e f) : VP X F0 H0 (.FormattedValue e (-1) none pos) (pInt f) 1921 := vp_int hv
theorem vpr (hv : VE X F0 H0 Psi0 e f) (hg : X.A.guards = some []) (hu : X.A.units + 64 < cLine) : VP X F0 H0 (.FormattedValue e 114 none pos) (pRep f) 10000 := vp_rep hv hg hu
theorem vmj (h : JP X F0 H0 (e :: e2 :: es) p l) (hl : l ≤ sizeLine := by decide) : VM X F0 H0 (.JoinedStr (e :: e2 :: es) pos) p := vm_join h hl
theorem vms {x : Str} {kk} : VM X F0 H0 (.Constant (.str x) kk pos) pT := fun pins s σ H Q I ⟨F, ev, fi, _, q⟩ => pe_str pins s σ H Q I (q F _ H fi.refl)
end
end L3
set_option Elab.async false
set_option linter.all false
set_option maxRecDepth 100000
namespace L3
open PySem L2
theorem cls_some {K : PySem.W.Frag} {C : Addr} {b : Value} (d : PySem.W.mroIn K C b = some true) : (PySem.W.clsIn K C).isSome = true := by
  unfold PySem.W.mroIn at d
  cases h : PySem.W.clsIn K C with
  | none => rw [h] at d; cases d
  | some _ => rfl
theorem exm_of {K : PySem.W.Frag} {N H : Addr} (a : PySem.W.subIn K (.ref H) (.type "BaseException") = some true) (b : PySem.W.typeIn K (.ref H) = some (.type "type")) (c : PySem.W.subIn K (.ref N) (.ref H) = some true) (d : PySem.W.mroIn K H (.type "object") = some true) : PySem.W.exmOne K (.ref N) (.ref H) = some true := by
  unfold PySem.W.exmOne
  rw [a, if_pos (by rfl)]
  unfold PySem.W.kitCls
  dsimp only
  rw [b, cls_some d, if_pos (by rfl)]
  exact c
section
variable {K : PySem.W.Frag} {mg : Str → Option Value} {cls : Addr → Addr} {c1 c2 c3 c4 HE C0 : Addr} {φ : List D → R} {F H : Hp} {d : D} {v : V}
end
end L3
set_option Elab.async false
set_option linter.all false
set_option maxRecDepth 100000
namespace L3
open PySem L2 PySem.SeqAt
noncomputable def foundR : R → R
  | .ok .fz .non => .ok .fz (.int 0)
  | .ex i => if 1 ≤ i ∧ i ≤ 4 then .ok .fz (.int (i : Nat)) else .no
  | _ => .no
section
variable {X : Cx}
noncomputable def FirstAt (qs : List PyData) (p : PyData) (j : Nat) : Prop := (∃ q, qs[j]? = some q ∧ q.eqv p = true) ∧ ∀ (m : Nat) (q : PyData), m < j → qs[m]? = some q → q.eqv p = false
noncomputable def rIdx (K : PySem.W.Frag) : V → List V → Hp → VK → Prop := fun x vs H Q => ∃ xs dy y qs p j, vs = [y] ∧ Rep K H (.lst xs) x ∧ Rep K H dy y ∧ pyL xs = some qs ∧ py dy = some p ∧ p.depth ≤ DEEP ∧ qs.length < 1000 ∧ FirstAt qs p j ∧ Q (.int (j : Nat)) H
theorem mt_idx (hu : X.A.units + 100 < cLine) : MtR X "list.index" (rIdx X.K) := by
  intro pins s σ H x vs v us Q I rx rv h
  obtain ⟨xs, dy, y, qs, p, j, rfl, hx, hy, e1, e2, hd, hl, fa, q⟩ := h
  obtain ⟨u, rfl, ru⟩ := rv.one
  obtain ⟨as, r1, c1⟩ := hx.reads I rx (show py (.lst xs) = some (.list qs) by rw [py, e1]; rfl)
  obtain ⟨bs, r2, c2⟩ := hy.reads I ru e2
  have c1 : PyData.canLayAll0 qs = true := by simpa [PyData.canLay0] using c1
  cases r1 with
  | list h1 h2 h3 h4 =>
    rename_i l o n' its as'
    obtain ⟨cls, dd, data, sl⟩ := o
    simp only at h2 h3
    subst h2 h3
    have rm := readsAll_map qs _ _ c1 h4
    have ln : n'.size = qs.length := by rw [← rm]; simp
    obtain ⟨⟨q0, z1, z2⟩, z3⟩ := fa
    have hj : j < qs.length := (List.getElem?_eq_some_iff.mp z1).1
    have at_ : ∀ (m : Nat) (hm : m < n'.size), qs[m]? = some (readOf s.heap n'[m]) := fun m hm => by
      rw [← rm, List.getElem?_map]; simp [hm]
    refine call_meets PySem.F.slot_list_index ⟨_, h1, rfl⟩ PySem.F.entry_list_index (PySem.F.args_list_index_2 _ _) (list_indexAt _ _ _ dd sl u (fun y => PyData.eqv (SeqAt.readOf s.heap y) p) j (by omega) (by omega) ?_ ?_) ⟨h1, ?_, ?_⟩
    · have := at_ j (by omega)
      rw [z1] at this; cases this
      exact z2
    · intro m hm lt
      exact z3 m _ lt (at_ m hm)
    · exact items_eqAt h4 r2 c1 c2 (by have := Nat.min_le_right (PyData.depthAll qs) p.depth; unfold DEEP at hd; show _ + 1 + _ < _; first | omega | (simp only [Around.under, Around.units] at *; omega))
    · exact ⟨.int j, H, I.tok _, ⟨_, rfl⟩, q⟩
end
end L3
set_option Elab.async false
set_option linter.all false
set_option maxRecDepth 100000
namespace L3
open PySem L2
structure FndK (K : PySem.W.Frag) (mg : Str → Option Value) (cls : Addr → Addr) (c1 c2 c3 c4 HE C0 : Addr) : Prop where
  z1 : mg "NoPath" = some (.ref c1)
  z2 : mg "OutOfTime" = some (.ref c2)
  z3 : mg "Twice" = some (.ref c3)
  z4 : mg "TooLate" = some (.ref c4)
  z5 : mg "HearError" = some (.ref HE)
  z6 : ∀ q, PySem.W.exmOne K (.ref (cls q)) (.ref HE) = some true
  z7 : mg "NoNet" = some (.ref C0)
  z8 : mg "ValueError" = none
  z9 : ∀ q, ExcC K (cls q)
  k1 : ∀ i : Nat, 1 ≤ i → i ≤ 4 → PySem.W.kitOne K (.ref (cls i)) (.ref c1) = some (decide (i = 1))
  k2 : ∀ i : Nat, 1 ≤ i → i ≤ 4 → PySem.W.kitOne K (.ref (cls i)) (.ref c2) = some (decide (i = 2))
  k3 : ∀ i : Nat, 1 ≤ i → i ≤ 4 → PySem.W.kitOne K (.ref (cls i)) (.ref c3) = some (decide (i = 3))
  k4 : ∀ i : Nat, 1 ≤ i → i ≤ 4 → PySem.W.kitOne K (.ref (cls i)) (.ref c4) = some (decide (i = 4))
  y2 : ∀ i : Nat, 1 ≤ i → i ≤ 4 → PySem.W.kitOne K (.ref (cls i)) (.ref C0) = some false
  y3 : ∀ q, PySem.W.kitOne K (.ref (cls q)) (.type "ValueError") = some true
section
variable {K : PySem.W.Frag} {mg : Str → Option Value} {cls : Addr → Addr} {c1 c2 c3 c4 HE C0 : Addr} {φ : List D → R} {F H : Hp} {d1 d2 : D} {v1 v2 : V}
noncomputable abbrev tXI (K : PySem.W.Frag) (v : V) : TE := tCB (rIsX K) (tCons (tVar 2) (tCons (tC v) tNil))
noncomputable def bls (i : Nat) : List V := [.bl (decide (i = 1)), .bl (decide (i = 2)), .bl (decide (i = 3)), .bl (decide (i = 4))]
noncomputable def blD (i : Nat) : List D := [.bl (decide (i = 1)), .bl (decide (i = 2)), .bl (decide (i = 3)), .bl (decide (i = 4))]
theorem bl_rep {H : Hp} {p : Addr} {i : Nat} (e : H p = some (.lst (bls i))) : Rep K H (.lst (blD i)) (.ref p) := by
  rw [Rep]
  exact ⟨p, bls i, rfl, e, .cons (by rw [Rep]) (.cons (by rw [Rep]) (.cons (by rw [Rep]) (.cons (by rw [Rep]) .nil)))⟩
theorem bl_cnt {i : Nat} (h1 : 1 ≤ i) (h4 : i ≤ 4) : cntD (blD i) (.bl true) = some (.fz, .int 1) := by
  have : i = 1 ∨ i = 2 ∨ i = 3 ∨ i = 4 := by omega
  rcases this with rfl | rfl | rfl | rfl <;> rfl
theorem bl_at {i : Nat} (h1 : 1 ≤ i) (h4 : i ≤ 4) : ∃ qs, pyL (blD i) = some qs ∧ qs.length < 1000 ∧ FirstAt qs (.bool true) (i - 1) := by
  have : i = 1 ∨ i = 2 ∨ i = 3 ∨ i = 4 := by omega
  have go : ∀ (l : List Bool) (j : Nat), l[j]? = some true → (∀ m, m < j → l[m]? = some false) → FirstAt (l.map PyData.bool) (.bool true) j := fun l j z1 z2 =>
    ⟨⟨.bool true, by rw [List.getElem?_map, z1]; rfl, by decide +kernel⟩, fun m q hm e => by
      rw [List.getElem?_map, z2 m hm] at e; cases e; decide +kernel⟩
  rcases this with rfl | rfl | rfl | rfl
  · exact ⟨[true, false, false, false].map PyData.bool, rfl, by decide, go _ 0 rfl fun m h => by omega⟩
  · exact ⟨[false, true, false, false].map PyData.bool, rfl, by decide, go _ 1 rfl fun m h => by obtain rfl : m = 0 := (by omega); rfl⟩
  · exact ⟨[false, false, true, false].map PyData.bool, rfl, by decide, go _ 2 rfl fun m h => by
      have : m = 0 ∨ m = 1 := by omega
      rcases this with rfl | rfl <;> rfl⟩
  · exact ⟨[false, false, false, true].map PyData.bool, rfl, by decide, go _ 3 rfl fun m h => by
      have : m = 0 ∨ m = 1 ∨ m = 2 := by omega
      rcases this with rfl | rfl | rfl <;> rfl⟩
theorem tXI_ref {σ : St} {H1 : Hp} {Q : VK} {a c u : Addr} {b : Bool} (hs : σ[2]? = some (some (.ref a))) (ha : H1 a = some (exO a (.ref c))) (x : ExcC K c) (e : PySem.W.kitOne K (.ref c) (.ref u) = some b) (q : Q (.bl b) H1) : tXI K (.ref u) σ H1 Q :=
  ⟨.ref a, hs, a, c, .ref u, b, rfl, ha, x, q, .inl ⟨.ref u, rfl, fun _ h => h, e⟩⟩
theorem tXI_ty {σ : St} {H1 : Hp} {Q : VK} {a c : Addr} {n : String} {b : Bool} (hs : σ[2]? = some (some (.ref a))) (ha : H1 a = some (exO a (.ref c))) (x : ExcC K c) (e : PySem.W.kitOne K (.ref c) (.type n) = some b) (q : Q (.bl b) H1) : tXI K (.ty n) σ H1 Q :=
  ⟨.ref a, hs, a, c, .ty n, b, rfl, ha, x, q, .inl ⟨.type n, rfl, fun _ h => h, e⟩⟩
noncomputable abbrev tRest (K : PySem.W.Frag) (c1 c2 c3 c4 C0 : Addr) : TS :=
  tSeq (tIfS (tB (tIsN (tVar 2))) (tRet (tC (.int 0))) tNext) (tSeq (tAsg (tLst (tCons (tXI K (.ref c1)) (tCons (tXI K (.ref c2)) tNil))) (gName 4)) (tSeq (tAsg (tOp rCat (tVar 4) (tLst (tCons (tXI K (.ref c3)) (tCons (tXI K (.ref c4)) tNil)))) (gName 4))
    (tSeq (tIfS (tOr (tB (tNeI (tBM K "list" (rCnt K) (tVar 4) (tCons (tC (.bl true)) tNil)) (tC (.int 1)))) (tOr (tB (tXI K (.ref C0))) (tNot (tB (tXI K (.ty "ValueError")))))) (tRet (tUn (rU fun i => .int (-i)) (tC (.int 1)))) tNext)
      (tRet (tAdd (tC (.int 1)) (tBM K "list" (rIdx K) (tVar 4) (tCons (tC (.bl true)) tNil)))))))
theorem rest_ex (k : FndK K mg cls c1 c2 c3 c4 HE C0) {E : Ends} {i : Nat} (h1 : 1 ≤ i) (h4 : i ≤ 4) {a : Addr} {H' : Hp} (sub : Same F H) (st : Step F H F H') (ha : H' a = some (exO a (.ref (cls i)))) (q : ∀ H2, Step F H F H2 → E.rt (.int (i : Nat)) H2) : tRest K c1 c2 c3 c4 C0 E [some v1, some v2, some (.ref a), none, none] H' := by
  refine ⟨.ref a, rfl, false, rfl, ?_⟩
  refine tXI_ref rfl ha (k.z9 i) (k.k1 i h1 h4) (tXI_ref rfl ha (k.z9 i) (k.k2 i h1 h4) ⟨(by show 2 ≤ sizeLine; decide), fun p hp => ?_⟩)
  have n1 : a ≠ p := fun z => by rw [z, hp] at ha; cases ha
  have ha1 : upd H' p (.lst [.bl (decide (i = 1)), .bl (decide (i = 2))]) a = some (exO a (.ref (cls i))) := by rw [upd_ne n1]; exact ha
  have st1 := st.trans (step_upd (o := .lst [.bl (decide (i = 1)), .bl (decide (i = 2))]) st.sub hp)
  generalize hH1 : upd H' p (.lst [.bl (decide (i = 1)), .bl (decide (i = 2))]) = H1 at *
  have hp1 : H1 p = some (.lst [.bl (decide (i = 1)), .bl (decide (i = 2))]) := by rw [← hH1]; exact upd_same
  refine ⟨.ref p, rfl, ?_⟩
  refine tXI_ref rfl ha1 (k.z9 i) (k.k3 i h1 h4) (tXI_ref rfl ha1 (k.z9 i) (k.k4 i h1 h4) ⟨(by show 2 ≤ sizeLine; decide), fun r hr => ?_⟩)
  have n2 : a ≠ r := fun z => by rw [z, hr] at ha1; cases ha1
  have n3 : p ≠ r := fun z => by rw [z, hr] at hp1; cases hp1
  refine ⟨p, r, _, _, rfl, rfl, (by rw [upd_ne n3]; exact hp1), upd_same, (by show 4 ≤ sizeLine; decide), fun t ht => ?_⟩
  have hrn := hr
  have st2 := st1.trans (step_upd (o := .lst [.bl (decide (i = 3)), .bl (decide (i = 4))]) st1.sub hr)
  have ha2 : upd H1 r (.lst [.bl (decide (i = 3)), .bl (decide (i = 4))]) a = some (exO a (.ref (cls i))) := by rw [upd_ne n2]; exact ha1
  generalize upd H1 r (.lst [.bl (decide (i = 3)), .bl (decide (i = 4))]) = H2 at *
  have n4 : a ≠ t := fun z => by rw [z, ht] at ha2; cases ha2
  have st3 := st2.trans (step_upd (o := .lst (bls i)) st2.sub ht)
  have ha3 : upd H2 t (.lst (bls i)) a = some (exO a (.ref (cls i))) := by rw [upd_ne n4]; exact ha2
  have ht3 : upd H2 t (.lst (bls i)) t = some (.lst (bls i)) := upd_same
  show (tSeq _ _) _ [some v1, some v2, some (.ref a), none, some (.ref t)] (upd H2 t (.lst (bls i)))
  generalize upd H2 t (.lst (bls i)) = H3 at *
  obtain ⟨qs, e1, e2, e3⟩ := bl_at h1 h4
  have ty : tyV K "list" (.ref t) H3 := .inl ⟨rfl, _, SqL.of ht3⟩
  have last : tRet (tAdd (tC (.int 1)) (tBM K "list" (rIdx K) (tVar 4) (tCons (tC (.bl true)) tNil))) E [some v1, some v2, some (.ref a), none, some (.ref t)] H3 := by
    refine ⟨.ref t, rfl, ty, blD i, .bl true, .bl true, qs, .bool true, i - 1, rfl, bl_rep ht3, (by rw [Rep]), e1, rfl, (by decide), e2, e3, 1, ((i - 1 : Nat) : Int), rfl, rfl, ?_⟩
    show E.rt (.int (1 + ((i - 1 : Nat) : Int))) H3
    rw [show (1 : Int) + ((i - 1 : Nat) : Int) = (i : Nat) by omega]
    exact q H3 st3
  refine ⟨.ref t, rfl, ty, blD i, .bl true, .bl true, 1, rfl, bl_rep ht3, (by rw [Rep]), bl_cnt h1 h4, 1, 1, rfl, rfl, false, rfl, ?_⟩
  refine tXI_ref rfl ha3 (k.z9 i) (k.y2 i h1 h4) ⟨false, rfl, ?_⟩
  exact tXI_ty rfl ha3 (k.z9 i) (k.y3 i) ⟨true, rfl, last⟩
theorem found_read (k : FndK K mg cls c1 c2 c3 c4 HE C0) {Q : VK} (sub : Same F H) (r1 : Rep K F d1 v1) (r2 : Rep K F d2 v2) (m : match foundR (φ [d1, d2]) with
      | .ok k d => k ≠ .bo ∧ ∀ F' v H', Post K F H k d F' v H' → Q v H'
      | _ => False) :
    tSeq (tAsg (tC .non) (gName 2)) (tSeq (fun D σ H1 => ∃ F1 ev, FI K F H F1 H1 ev σ ∧ match eFnX 2 φ (aCons (varR 0) (aCons (varR 1) aNil)) ev with
      | .ok _ _ => ∀ F' H', Step F1 H1 F' H' → D.nx σ H'
      | .ex q => ∀ F' H' a, Step F H F' H' → H' a = some (exO a (.ref (cls q))) → D.nx (((σ.set 3 (some (.ref a))).set 2 (some (.ref a))).set 3 none) H'
      | .no => False) (tRest K c1 c2 c3 c4 C0))
      { nx := fun _ H' => Q .non H', rt := Q } [some v1, some v2, none, none, none] H := by
  have fi : FI K F H F H [some (.fz, d1), some (.fz, d2), some (.fz, .non), none, none] [some v1, some v2, some .non, none, none] := by
    refine ⟨.refl sub, fun i k' d' e => ?_, fun i j e1 e2 hij z1 z2 => ?_, rfl⟩
    · match i with
      | 0 => cases e; exact ⟨by simp, v1, rfl, r1⟩
      | 1 => cases e; exact ⟨by simp, v2, rfl, r2⟩
      | 2 => cases e; exact ⟨by simp, .non, rfl, by rw [Val, Rep]⟩
      | 3 => cases e
      | 4 => cases e
      | i + 5 => simp at e
    · match i with
      | 0 => cases z1
      | 1 => cases z1
      | 2 => cases z1
      | 3 => cases z1
      | 4 => cases z1
      | i + 5 => simp at z1
  show tSeq _ _ _ [some v1, some v2, some .non, none, none] H
  refine ⟨F, [some (.fz, d1), some (.fz, d2), some (.fz, .non), none, none], fi, ?_⟩
  have e : eFnX 2 φ (aCons (varR 0) (aCons (varR 1) aNil)) [some (.fz, d1), some (.fz, d2), some (.fz, .non), none, none] = rxF (φ [d1, d2]) := rfl
  rw [e]
  cases q : φ [d1, d2] with
  | no => rw [q] at m; exact m
  | ok k' d' =>
    rw [q] at m
    cases k' with
    | fz => cases d' with
      | non =>
        intro F' H' st
        exact ⟨.non, rfl, true, rfl, m.2 F' (.int 0) H' ⟨st, by rw [Val, Rep]⟩⟩
      | _ => exact m.elim
    | _ => exact m.elim
  | ex i =>
    rw [q] at m
    simp only [foundR] at m
    by_cases z : 1 ≤ i ∧ i ≤ 4
    · rw [if_pos z] at m
      intro F' H' a st ha
      have st' : Step F H F H' := ⟨.refl _, sub.trans st.keep, st.keep, fun _ _ e => .inl e⟩
      exact rest_ex k z.1 z.2 sub st' ha fun H2 s2 => m.2 F (.int i) H2 ⟨s2, by rw [Val, Rep]⟩
    · rw [if_neg z] at m; exact m.elim
end
end L3
set_option Elab.async false
set_option linter.all false
set_option maxRecDepth 100000
namespace L3
open PySem L2
section
variable {n : Nat} {φ : List D → R} {fs : Ev → RA} {ev : Ev} {i : Addr}
@[simp] theorem eFnX_eq : eFnX n φ fs ev = fnRX n φ (fs ev) := (rfl)
theorem fnRX_ok {l : List (Kd × D)} (h : l.length = n) : fnRX n φ (.ok l) = rxO φ l (allFz l) := by simp only [fnRX, if_pos h]
@[simp] theorem fnRX_1 {a : Kd × D} : fnRX 1 φ (.ok [a]) = rxO φ [a] (allFz [a]) := (fnRX_ok rfl)
@[simp] theorem fnRX_2 {a b : Kd × D} : fnRX 2 φ (.ok [a, b]) = rxO φ [a, b] (allFz [a, b]) := (fnRX_ok rfl)
@[simp] theorem fnRX_3 {a b c : Kd × D} : fnRX 3 φ (.ok [a, b, c]) = rxO φ [a, b, c] (allFz [a, b, c]) := (fnRX_ok rfl)
@[simp] theorem rxO_some {l : List (Kd × D)} {ds : List D} : rxO φ l (some ds) = rxF (φ ds) := (rfl)
@[simp] theorem rxO_none {l : List (Kd × D)} : rxO φ l none = rxS (φ (l.map (·.2))) := (rfl)
@[simp] theorem rxF_fz {d : D} : rxF (.ok .fz d) = .ok .fz d := (rfl)
@[simp] theorem rxF_ex : rxF (.ex i) = .ex i := (rfl)
@[simp] theorem rxS_ex : rxS (.ex i) = .ex i := (rfl)
@[simp] theorem raiseG_eq {p : Ev → Bool} : raiseG i p ev = if p ev = true then .ex i else .no := (rfl)
@[simp] theorem intOkR_int {k : Kd} {x : Int} : intOkR (.ok k (.int x)) = decide (x.natAbs.log2 < 1920) := (rfl)
@[simp] theorem repOkR_tup {k : Kd} {l : List D} : repOkR (.ok k (.tup l)) = shO (py (.tup l)) := (rfl)
end
end L3
set_option Elab.async false
set_option linter.all false
set_option maxRecDepth 100000
set_option maxHeartbeats 4000000
namespace My
open PySem L2 L3
noncomputable def top (i : Nat) : Stmt := PySem.Challenge.pw_hearsay_k12_faults_in_order.main.body.getD i (.Pass ⟨0, 0, 0, 0⟩)
noncomputable abbrev s_L_cell_at : Stmt := top 21
noncomputable abbrev N_L_cell_at : List Str := ["_law_script", "_law_k"]
noncomputable abbrev ps_L_cell_at : List Str := ["_law_script", "_law_k"]
noncomputable def g_L_cell_at : Ev → Fl := (seqG (ifG (eOp ltD (varR 1) (eCall lenD (aCons (varR 0) aNil))) (retG (eOp idxD (varR 0) (varR 1))) (.nx))
    (retG (conR (.int 0))))
noncomputable def φ_L_cell_at : List D → R := runF 0 g_L_cell_at
noncomputable abbrev s_L_double : Stmt := top 32
noncomputable abbrev N_L_double : List Str := ["_law_net_here", "_law_tale_here", "_law_some"]
noncomputable abbrev ps_L_double : List Str := ["_law_net_here", "_law_tale_here"]
noncomputable def g_L_double : Ev → Fl := (seqG (setG 2 (eComp ([none] : List (Option Nat)) (iLst (eOp idxD (varR 1) (conR (.int 1)))) (bName 0) (conR (.bl true)) (eSl (varR 0) oNo (oSome (conR (.int 3))))))
    (retG (eOr (eOp ltD (eLenSet (varR 2)) (eCall lenD (aCons (varR 2) aNil))) (eOp ltD (eLenSet (eOp idxD (varR 1) (conR (.int 2)))) (eCall lenD (aCons (eOp idxD (varR 1) (conR (.int 2))) aNil))))))
noncomputable def φ_L_double : List D → R := runF 1 g_L_double
noncomputable abbrev s_L_late : Stmt := top 33
noncomputable abbrev N_L_late : List Str := ["_law_net_here", "_law_tale_here", "_law_start", "_law_goal", "_law_most", "_law_lefts", "_law_run", "_law_left"]
noncomputable abbrev ps_L_late : List Str := ["_law_net_here", "_law_tale_here"]
noncomputable def g_L_late_b1 : Ev → Fl := (ifG (eOp eqD (eSl (varR 6) oNo (oSome (conR (.int 2)))) (eTup (aCons (varR 2) (aCons (varR 3) aNil)))) (seqG (appG 5 (eOp idxD (varR 6) (conR (.int 2))))
    (ifG (eOp gtD (eOp idxD (varR 6) (conR (.int 3))) (eOp addD (eOp idxD (varR 6) (conR (.int 2))) (varR 4))) (retG (conR (.bl true))) (.nx))) (.nx))
noncomputable def g_L_late_b2 : Ev → Fl := (ifG (eOp notInD (varR 7) (varR 5)) (retG (conR (.bl true))) (.nx))
noncomputable def g_L_late_j1 : Ev → Fl := (forG (iRngW (aCons (eOp addD (eOp subD (eOp idxD (varR 1) (conR (.int 0))) (varR 4)) (conR (.int 1))) aNil)) (bName 7) g_L_late_b2)
noncomputable def g_L_late_j2 : Ev → Fl := (seqG (setG 5 (eLst aNil))
    (seqG (forG (iLst (eOp idxD (varR 1) (conR (.int 1)))) (bName 6) g_L_late_b1)
    g_L_late_j1))
noncomputable def g_L_late_b3 : Ev → Fl := (seqG (ifG (eOp isND (varR 4) (conR .non)) (.ct) (.nx))
    g_L_late_j2)
noncomputable def g_L_late : Ev → Fl := (seqG (forG (iLst (eOp idxD (varR 0) (conR (.int 1)))) (bTup 3 (bCons (bName 2) (bCons (bName 3) (bCons (bName 4) bNil)))) g_L_late_b3)
    (retG (conR (.bl false))))
noncomputable def φ_L_late : List D → R := runF 6 g_L_late
noncomputable abbrev s_L_no_place : Stmt := top 30
noncomputable abbrev N_L_no_place : List Str := ["_law_net_here", "_law_tale_here", "_law_paths"]
noncomputable abbrev ps_L_no_place : List Str := ["_law_net_here", "_law_tale_here"]
noncomputable def g_L_no_place_j1 : Ev → Fl := (retG (eOp neD (eComp ([some 0, none] : List (Option Nat)) (iLst (eOp idxD (varR 1) (conR (.int 2)))) (bName 1) (eOr (eOp ltD (eOp idxD (varR 1) (conR (.int 0))) (conR (.int 0))) (eOp geD (eOp idxD (varR 1) (conR (.int 0))) (eOp idxD (varR 0) (conR (.int 0))))) (varR 1)) (eLst aNil)))
noncomputable def g_L_no_place : Ev → Fl := (seqG (setG 2 (eComp ([none] : List (Option Nat)) (iLst (eOp idxD (varR 0) (conR (.int 1)))) (bName 0) (conR (.bl true)) (eSl (varR 0) oNo (oSome (conR (.int 2))))))
    (frzG 2 (seqG (ifG (eOp neD (eComp ([some 2, none] : List (Option Nat)) (iLst (eOp idxD (varR 1) (conR (.int 1)))) (bName 1) (eOp notInD (eSl (varR 1) oNo (oSome (conR (.int 2)))) (varR 0)) (varR 1)) (eLst aNil)) (retG (conR (.bl true))) (.nx))
    g_L_no_place_j1)))
noncomputable def φ_L_no_place : List D → R := runF 1 g_L_no_place
noncomputable abbrev s_L_out : Stmt := top 31
noncomputable abbrev N_L_out : List Str := ["_law_net_here", "_law_tale_here", "_law_run"]
noncomputable abbrev ps_L_out : List Str := ["_law_net_here", "_law_tale_here"]
noncomputable def g_L_out_b1 : Ev → Fl := (ifG (eOr (eOp ltD (eOp idxD (varR 2) (conR (.int 2))) (conR (.int 0))) (eOr (eOp leD (eOp idxD (varR 2) (conR (.int 3))) (eOp idxD (varR 2) (conR (.int 2)))) (eOp gtD (eOp idxD (varR 2) (conR (.int 3))) (eOp idxD (varR 1) (conR (.int 0)))))) (retG (conR (.bl true))) (.nx))
noncomputable def g_L_out_j1 : Ev → Fl := (retG (eOp neD (eComp ([some 1, none] : List (Option Nat)) (iLst (eOp idxD (varR 1) (conR (.int 2)))) (bName 1) (eOr (eOp ltD (eOp idxD (varR 1) (conR (.int 1))) (conR (.int 0))) (eOp gtD (eOp idxD (varR 1) (conR (.int 1))) (eOp idxD (varR 0) (conR (.int 0))))) (varR 1)) (eLst aNil)))
noncomputable def g_L_out_j2 : Ev → Fl := (seqG (forG (iLst (eOp idxD (varR 1) (conR (.int 1)))) (bName 2) g_L_out_b1)
    g_L_out_j1)
noncomputable def g_L_out : Ev → Fl := (seqG (ifG (eOr (eOp ltD (eOp idxD (varR 1) (conR (.int 0))) (conR (.int 0))) (eOp gtD (eOp idxD (varR 1) (conR (.int 0))) (conR (.int 60)))) (retG (conR (.bl true))) (.nx))
    g_L_out_j2)
noncomputable def φ_L_out : List D → R := runF 1 g_L_out
noncomputable abbrev s_L_due : Stmt := top 34
noncomputable abbrev N_L_due : List Str := ["_law_net_here", "_law_tale_here"]
noncomputable abbrev ps_L_due : List Str := ["_law_net_here", "_law_tale_here"]
noncomputable def g_L_due_j1 : Ev → Fl := (retG (eOp mulD (conR (.int 4)) (eCall intD (aCons (eFn 2 φ_L_late (aCons (varR 0) (aCons (varR 1) aNil))) aNil))))
noncomputable def g_L_due_j2 : Ev → Fl := (seqG (ifG (eFn 2 φ_L_double (aCons (varR 0) (aCons (varR 1) aNil))) (retG (conR (.int 3))) (.nx))
    g_L_due_j1)
noncomputable def g_L_due_j3 : Ev → Fl := (seqG (ifG (eFn 2 φ_L_out (aCons (varR 0) (aCons (varR 1) aNil))) (retG (conR (.int 2))) (.nx))
    g_L_due_j2)
noncomputable def g_L_due : Ev → Fl := (seqG (ifG (eFn 2 φ_L_no_place (aCons (varR 0) (aCons (varR 1) aNil))) (retG (conR (.int 1))) (.nx))
    g_L_due_j3)
noncomputable def φ_L_due : List D → R := runF 0 g_L_due
noncomputable abbrev s_P_check_all_came : Stmt := top 19
noncomputable abbrev N_P_check_all_came : List Str := ["path", "last", "told", "left"]
noncomputable abbrev ps_P_check_all_came : List Str := ["path", "last", "told"]
noncomputable def g_P_check_all_came_b1 : Ev → Fl := (ifG (eOp notInD (eTup (aCons (eOp idxD (varR 0) (conR (.int 0))) (aCons (eOp idxD (varR 0) (conR (.int 1))) (aCons (varR 3) aNil)))) (varR 2)) (raiseG 4 (pAnd pT (pAnd (pRep (varR 0)) (pAnd pT (pAnd (pInt (varR 3)) (pAnd pT pT)))))) (.nx))
noncomputable def g_P_check_all_came : Ev → Fl := (forG (iRngW (aCons (eOp addD (eOp subD (varR 1) (eOp idxD (varR 0) (conR (.int 2)))) (conR (.int 1))) aNil)) (bName 3) g_P_check_all_came_b1)
noncomputable def φ_P_check_all_came : List D → R := runF 1 g_P_check_all_came
noncomputable abbrev s_P_path_mosts : Stmt := top 9
noncomputable abbrev N_P_path_mosts : List Str := ["net", "mosts", "start", "goal", "most"]
noncomputable abbrev ps_P_path_mosts : List Str := ["net"]
noncomputable def g_P_path_mosts_b1 : Ev → Fl := (setItG 1 (eTup (aCons (varR 2) (aCons (varR 3) aNil))) (varR 4))
noncomputable def g_P_path_mosts : Ev → Fl := (seqG (setG 1 (fun _ => .ok .ow (.dT [] [])))
    (seqG (forG (iLst (eOp idxD (varR 0) (conR (.int 1)))) (bTup 3 (bCons (bName 2) (bCons (bName 3) (bCons (bName 4) bNil)))) g_P_path_mosts_b1)
    (retVarG 1)))
noncomputable def φ_P_path_mosts : List D → R := runF 4 g_P_path_mosts
noncomputable abbrev s_P_check_runs_in_time : Stmt := top 18
noncomputable abbrev N_P_check_runs_in_time : List Str := ["net", "runs", "mosts", "run", "most"]
noncomputable abbrev ps_P_check_runs_in_time : List Str := ["net", "runs"]
noncomputable def g_P_check_runs_in_time_b1 : Ev → Fl := (seqG (setG 4 (eOp idxD (varR 2) (eTup (aCons (eOp idxD (varR 3) (conR (.int 0))) (aCons (eOp idxD (varR 3) (conR (.int 1))) aNil)))))
    (ifG (eAnd (eOp notND (varR 4) (conR .non)) (eOp gtD (eOp idxD (varR 3) (conR (.int 3))) (eOp addD (eOp idxD (varR 3) (conR (.int 2))) (varR 4)))) (raiseG 4 (pAnd pT (pAnd (pRep (varR 3)) pT))) (.nx)))
noncomputable def g_P_check_runs_in_time : Ev → Fl := (seqG (setG 2 (eFn 1 φ_P_path_mosts (aCons (varR 0) aNil)))
    (forG (iLst (varR 1)) (bName 3) g_P_check_runs_in_time_b1))
noncomputable def φ_P_check_runs_in_time : List D → R := runF 3 g_P_check_runs_in_time
noncomputable abbrev s_P_run_key : Stmt := top 16
noncomputable abbrev N_P_run_key : List Str := ["run"]
noncomputable abbrev ps_P_run_key : List Str := ["run"]
noncomputable def g_P_run_key : Ev → Fl := (retG (eTup (aCons (eOp idxD (varR 0) (conR (.int 0))) (aCons (eOp idxD (varR 0) (conR (.int 1))) (aCons (eOp idxD (varR 0) (conR (.int 2))) aNil)))))
noncomputable def φ_P_run_key : List D → R := runF 0 g_P_run_key
noncomputable abbrev s_P_check_mosts : Stmt := top 17
noncomputable abbrev N_P_check_mosts : List Str := ["net", "tale", "told", "run", "path"]
noncomputable abbrev ps_P_check_mosts : List Str := ["net", "tale"]
noncomputable def g_P_check_mosts_b1 : Ev → Fl := (setItG 2 (eFn 1 φ_P_run_key (aCons (varR 3) aNil)) (conR (.bl true)))
noncomputable def g_P_check_mosts_b2 : Ev → Fl := (ifG (eOp notND (eOp idxD (varR 4) (conR (.int 2))) (conR .non)) (dropG (eFnX 3 φ_P_check_all_came (aCons (varR 4) (aCons (eOp idxD (varR 1) (conR (.int 0))) (aCons (varR 2) aNil))))) (.nx))
noncomputable def g_P_check_mosts_j1 : Ev → Fl := (forG (iLst (eOp idxD (varR 0) (conR (.int 1)))) (bName 4) g_P_check_mosts_b2)
noncomputable def g_P_check_mosts : Ev → Fl := (seqG (dropG (eFnX 2 φ_P_check_runs_in_time (aCons (varR 0) (aCons (eOp idxD (varR 1) (conR (.int 1))) aNil))))
    (seqG (setG 2 (fun _ => .ok .ow (.dT [] [])))
    (seqG (forG (iLst (eOp idxD (varR 1) (conR (.int 1)))) (bName 3) g_P_check_mosts_b1)
    g_P_check_mosts_j1)))
noncomputable def φ_P_check_mosts : List D → R := runF 3 g_P_check_mosts
noncomputable abbrev s_P_is_house : Stmt := top 8
noncomputable abbrev N_P_is_house : List Str := ["houses", "house"]
noncomputable abbrev ps_P_is_house : List Str := ["houses", "house"]
noncomputable def g_P_is_house : Ev → Fl := (retG (eChain leD ltD (conR (.int 0)) (varR 1) (varR 0)))
noncomputable def φ_P_is_house : List D → R := runF 0 g_P_is_house
noncomputable abbrev s_P_check_places : Stmt := top 13
noncomputable abbrev N_P_check_places : List Str := ["net", "tale", "mosts", "run", "sign"]
noncomputable abbrev ps_P_check_places : List Str := ["net", "tale"]
noncomputable def g_P_check_places_b1 : Ev → Fl := (ifG (eOp notInD (eTup (aCons (eOp idxD (varR 3) (conR (.int 0))) (aCons (eOp idxD (varR 3) (conR (.int 1))) aNil))) (varR 2)) (raiseG 1 (pAnd pT (pAnd (pRep (varR 3)) pT))) (.nx))
noncomputable def g_P_check_places_b2 : Ev → Fl := (ifG (eNot (eFn 2 φ_P_is_house (aCons (eOp idxD (varR 0) (conR (.int 0))) (aCons (eOp idxD (varR 4) (conR (.int 0))) aNil)))) (raiseG 1 (pAnd pT (pAnd (pRep (varR 4)) pT))) (.nx))
noncomputable def g_P_check_places_j1 : Ev → Fl := (forG (iLst (eOp idxD (varR 1) (conR (.int 2)))) (bName 4) g_P_check_places_b2)
noncomputable def g_P_check_places : Ev → Fl := (seqG (setG 2 (eFn 1 φ_P_path_mosts (aCons (varR 0) aNil)))
    (seqG (forG (iLst (eOp idxD (varR 1) (conR (.int 1)))) (bName 3) g_P_check_places_b1)
    g_P_check_places_j1))
noncomputable def φ_P_check_places : List D → R := runF 3 g_P_check_places
noncomputable abbrev s_P_check_turns : Stmt := top 14
noncomputable abbrev N_P_check_turns : List Str := ["tale", "last", "run", "sign"]
noncomputable abbrev ps_P_check_turns : List Str := ["tale"]
noncomputable def g_P_check_turns_b1 : Ev → Fl := (ifG (eNot (eChain3 leD ltD leD (conR (.int 0)) (eOp idxD (varR 2) (conR (.int 2))) (eOp idxD (varR 2) (conR (.int 3))) (varR 1))) (raiseG 2 (pAnd pT (pAnd (pRep (varR 2)) pT))) (.nx))
noncomputable def g_P_check_turns_b2 : Ev → Fl := (ifG (eNot (eChain leD leD (conR (.int 0)) (eOp idxD (varR 3) (conR (.int 1))) (varR 1))) (raiseG 2 (pAnd pT (pAnd (pRep (varR 3)) pT))) (.nx))
noncomputable def g_P_check_turns_j1 : Ev → Fl := (forG (iLst (eOp idxD (varR 0) (conR (.int 2)))) (bName 3) g_P_check_turns_b2)
noncomputable def g_P_check_turns_j2 : Ev → Fl := (seqG (forG (iLst (eOp idxD (varR 0) (conR (.int 1)))) (bName 2) g_P_check_turns_b1)
    g_P_check_turns_j1)
noncomputable def g_P_check_turns : Ev → Fl := (seqG (setG 1 (eOp idxD (varR 0) (conR (.int 0))))
    (seqG (ifG (eNot (eChain leD leD (conR (.int 0)) (varR 1) (conR (.int 60)))) (raiseG 2 (pAnd pT (pAnd (pInt (conR (.int 60))) (pAnd pT (pAnd (pInt (varR 1)) pT))))) (.nx))
    g_P_check_turns_j2))
noncomputable def φ_P_check_turns : List D → R := runF 3 g_P_check_turns
noncomputable abbrev s_P_check_unlike : Stmt := top 15
noncomputable abbrev N_P_check_unlike : List Str := ["tale", "runners"]
noncomputable abbrev ps_P_check_unlike : List Str := ["tale"]
noncomputable def g_P_check_unlike_j1 : Ev → Fl := (ifG (eOp ltD (eLenSet (eOp idxD (varR 0) (conR (.int 2)))) (eCall lenD (aCons (eOp idxD (varR 0) (conR (.int 2))) aNil))) (raiseG 3 pT) (.nx))
noncomputable def g_P_check_unlike : Ev → Fl := (seqG (setG 1 (eComp ([none] : List (Option Nat)) (iLst (eOp idxD (varR 0) (conR (.int 1)))) (bName 0) (conR (.bl true)) (eFn 1 φ_P_run_key (aCons (varR 0) aNil))))
    (seqG (ifG (eOp ltD (eLenSet (varR 1)) (eCall lenD (aCons (varR 1) aNil))) (raiseG 3 pT) (.nx))
    g_P_check_unlike_j1))
noncomputable def φ_P_check_unlike : List D → R := runF 1 g_P_check_unlike
noncomputable abbrev s_P_check_tale : Stmt := top 12
noncomputable abbrev N_P_check_tale : List Str := ["net", "tale"]
noncomputable abbrev ps_P_check_tale : List Str := ["net", "tale"]
noncomputable def g_P_check_tale : Ev → Fl := (seqG (dropG (eFnX 2 φ_P_check_places (aCons (varR 0) (aCons (varR 1) aNil))))
    (seqG (dropG (eFnX 1 φ_P_check_turns (aCons (varR 1) aNil)))
    (seqG (dropG (eFnX 1 φ_P_check_unlike (aCons (varR 1) aNil)))
    (dropG (eFnX 2 φ_P_check_mosts (aCons (varR 0) (aCons (varR 1) aNil)))))))
noncomputable def φ_P_check_tale : List D → R := runF 0 g_P_check_tale
noncomputable abbrev s_L_found : Stmt := top 35
noncomputable abbrev N_L_found : List Str := ["_law_net_here", "_law_tale_here", "_law_kept", "e", "_law_some"]
noncomputable abbrev ps_L_found : List Str := ["_law_net_here", "_law_tale_here"]
noncomputable def φ_L_found : List D → R := fun ds => foundR (φ_P_check_tale ds)
noncomputable abbrev s_L_mix : Stmt := top 22
noncomputable abbrev N_L_mix : List Str := ["_law_cell", "_law_k", "_law_turn", "_law_number"]
noncomputable abbrev ps_L_mix : List Str := ["_law_cell", "_law_k"]
noncomputable def g_L_mix_b1 : Ev → Fl := (setG 0 (eOp fdivD (varR 0) (conR (.int 2147483648))))
noncomputable def g_L_mix_j1 : Ev → Fl := (seqG (setG 3 (eOp modD (eOp mulD (eOp addD (eOp addD (eOp modD (varR 0) (conR (.int 1000003))) (eOp mulD (eOp mulD (varR 1) (varR 1)) (conR (.int 7919)))) (varR 1)) (conR (.int 48271))) (conR (.int 2147483629))))
    (seqG (setG 3 (eOp modD (eOp mulD (varR 3) (varR 3)) (conR (.int 2147483587))))
    (retG (eOp fdivD (eOp modD (eOp mulD (varR 3) (eOp addD (varR 3) (conR (.int 2)))) (conR (.int 2147483579))) (conR (.int 7))))))
noncomputable def g_L_mix : Ev → Fl := (seqG (ifG (eOp geD (varR 0) (eOp powD (conR (.int 10)) (conR (.int 12)))) (seqG (setG 0 (eOp subD (eOp fdivD (varR 0) (eOp powD (conR (.int 10)) (conR (.int 12)))) (conR (.int 1))))
    (seqG (forG (iRngW (aCons (eOp modD (varR 1) (conR (.int 61))) aNil)) (bName 2) g_L_mix_b1)
    (retG (eOp modD (varR 0) (conR (.int 2147483648)))))) (.nx))
    g_L_mix_j1)
noncomputable def φ_L_mix : List D → R := runF 2 g_L_mix
noncomputable abbrev s_L_net : Stmt := top 23
noncomputable abbrev N_L_net : List Str := ["_law_script", "_law_number", "_law_houses", "_law_paths", "_law_start", "_law_goal", "_law_drawn", "_law_far", "_law_most"]
noncomputable abbrev ps_L_net : List Str := ["_law_script"]
noncomputable def g_L_net_j1 : Ev → Fl := (seqG (setG 8 (eOp idxD (eLst (aCons (conR .non) (aCons (conR (.int 1)) (aCons (conR (.int 2)) (aCons (eOp addD (conR (.int 1)) (eOp modD (eOp fdivD (varR 6) (conR (.int 6))) (conR (.int 6)))) (aCons (eOp addD (eOp powD (conR (.int 10)) (conR (.int 50))) (varR 6)) aNil)))))) (eOp subD (eOp modD (varR 6) (conR (.int 6))) (conR (.int 1)))))
    (appG 3 (eTup (aCons (varR 4) (aCons (varR 5) (aCons (varR 8) aNil))))))
noncomputable def g_L_net_b1 : Ev → Fl := (seqG (setG 6 (eFn 2 φ_L_mix (aCons (eFn 2 φ_L_cell_at (aCons (varR 0) (aCons (conR (.int 1)) aNil))) (aCons (eOp addD (eOp mulD (conR (.int 10)) (varR 4)) (varR 5)) aNil))))
    (seqG (setG 7 (eAnd (eOp gtD (eCall absD (aCons (eOp subD (varR 5) (varR 4)) aNil)) (conR (.int 1))) (eOr (eOp eqD (eOp modD (varR 1) (conR (.int 4))) (conR (.int 1))) (eOp gtD (varR 2) (conR (.int 4))))))
    (seqG (ifG (eOr (eOp eqD (varR 4) (varR 5)) (eOr (varR 7) (eOp eqD (eOp modD (varR 6) (conR (.int 6))) (conR (.int 0))))) (.ct) (.nx))
    g_L_net_j1)))
noncomputable def g_L_net_b2 : Ev → Fl := (forG (iRngW (aCons (varR 2) aNil)) (bName 5) g_L_net_b1)
noncomputable def g_L_net_j2 : Ev → Fl := (frzG 3 (frzG 2 (retG (eTup (aCons (varR 2) (aCons (varR 3) aNil))))))
noncomputable def g_L_net_j3 : Ev → Fl := (seqG (ifG (eOp eqD (eOp modD (eOp fdivD (varR 1) (conR (.int 4))) (conR (.int 2))) (conR (.int 1))) (setG 3 (eOp stepD (varR 3) (eUn negD (conR (.int 1))))) (.nx))
    g_L_net_j2)
noncomputable def g_L_net_j4 : Ev → Fl := (seqG (setG 3 (eLst aNil))
    (seqG (forG (iRngW (aCons (varR 2) aNil)) (bName 4) g_L_net_b2)
    g_L_net_j3))
noncomputable def g_L_net_j5 : Ev → Fl := (seqG (ifG (eOp eqD (eOp modD (eOp fdivD (varR 1) (conR (.int 8))) (conR (.int 8))) (conR (.int 2))) (setG 2 (conR (.int 2))) (.nx))
    g_L_net_j4)
noncomputable def g_L_net : Ev → Fl := (seqG (setG 1 (eFn 2 φ_L_mix (aCons (eFn 2 φ_L_cell_at (aCons (varR 0) (aCons (conR (.int 0)) aNil))) (aCons (conR (.int 1)) aNil))))
    (seqG (setG 2 (eOp addD (conR (.int 1)) (eOp modD (eFn 2 φ_L_cell_at (aCons (varR 0) (aCons (conR (.int 0)) aNil))) (conR (.int 4)))))
    (seqG (ifG (eOp eqD (eOp modD (eOp fdivD (varR 1) (conR (.int 8))) (conR (.int 8))) (conR (.int 1))) (setG 2 (eOp addD (conR (.int 5)) (eOp modD (eOp fdivD (varR 1) (conR (.int 64))) (conR (.int 4))))) (.nx))
    g_L_net_j5)))
noncomputable def φ_L_net : List D → R := runF 8 g_L_net
noncomputable abbrev s_L_put : Stmt := top 26
noncomputable abbrev N_L_put : List Str := ["_law_things", "_law_thing", "_law_at"]
noncomputable abbrev ps_L_put : List Str := ["_law_things", "_law_thing", "_law_at"]
noncomputable def g_L_put : Ev → Fl := (seqG (setG 2 (eOp modD (varR 2) (eOp addD (eCall lenD (aCons (varR 0) aNil)) (conR (.int 1)))))
    (retG (eOp addD (eOp addD (eSl (varR 0) oNo (oSome (varR 2))) (eLst (aCons (varR 1) aNil))) (eSl (varR 0) (oSome (varR 2)) oNo))))
noncomputable def φ_L_put : List D → R := runF 0 g_L_put
noncomputable abbrev s_L_wrong_run : Stmt := top 27
noncomputable abbrev N_L_wrong_run : List Str := ["_law_number", "_law_net_here", "_law_tale_here", "_law_last", "_law_far", "_law_left", "_law_house", "_law_path", "_law_low", "_law_some"]
noncomputable abbrev ps_L_wrong_run : List Str := ["_law_number", "_law_net_here", "_law_tale_here"]
noncomputable def g_L_wrong_run_j1 : Ev → Fl := (seqG (setG 8 (eOp subD (eUn negD (conR (.int 1))) (eOp modD (eOp fdivD (varR 0) (conR (.int 9))) (eOp idxD (varR 1) (conR (.int 0))))))
    (seqG (setG 9 (eLst (aCons (eTup (aCons (varR 6) (aCons (eOp idxD (varR 1) (conR (.int 0))) (aCons (varR 5) (aCons (eOp addD (varR 5) (conR (.int 1))) aNil))))) (aCons (eTup (aCons (varR 8) (aCons (varR 6) (aCons (varR 5) (aCons (eOp addD (varR 5) (conR (.int 1))) aNil))))) (aCons (eTup (aCons (varR 6) (aCons (varR 6) (aCons (varR 5) (aCons (eOp addD (varR 5) (conR (.int 1))) aNil))))) aNil)))))
    (seqG (setG 9 (eOp addD (varR 9) (eLst (aCons (eTup (aCons (varR 6) (aCons (varR 8) (aCons (varR 5) (aCons (eOp addD (varR 5) (conR (.int 1))) aNil))))) (aCons (eTup (aCons (eOp addD (eOp powD (conR (.int 10)) (conR (.int 30))) (varR 6)) (aCons (varR 6) (aCons (varR 5) (aCons (eOp addD (varR 5) (conR (.int 1))) aNil))))) aNil)))))
    (seqG (setG 9 (eOp addD (varR 9) (eLst (aCons (eTup (aCons (varR 6) (aCons (eOp addD (eOp powD (conR (.int 10)) (conR (.int 58))) (varR 0)) (aCons (varR 5) (aCons (eOp addD (varR 5) (conR (.int 1))) aNil))))) aNil))))
    (seqG (setG 9 (eOp addD (varR 9) (eLst (aCons (eTup (aCons (eOp idxD (varR 7) (conR (.int 0))) (aCons (eOp idxD (varR 7) (conR (.int 1))) (aCons (eOp subD (eUn negD (conR (.int 1))) (eOp modD (eOp fdivD (varR 0) (conR (.int 9))) (conR (.int 2)))) (aCons (varR 5) aNil))))) (aCons (eTup (aCons (eOp idxD (varR 7) (conR (.int 0))) (aCons (eOp idxD (varR 7) (conR (.int 1))) (aCons (varR 5) (aCons (varR 5) aNil))))) aNil)))))
    (seqG (setG 9 (eOp addD (varR 9) (eLst (aCons (eTup (aCons (eOp idxD (varR 7) (conR (.int 0))) (aCons (eOp idxD (varR 7) (conR (.int 1))) (aCons (varR 5) (aCons (varR 4) aNil))))) (aCons (eTup (aCons (eOp idxD (varR 7) (conR (.int 0))) (aCons (eOp idxD (varR 7) (conR (.int 1))) (aCons (varR 5) (aCons (eOp subD (eOp subD (varR 5) (conR (.int 1))) (eOp modD (eOp fdivD (varR 0) (conR (.int 9))) (conR (.int 3)))) aNil))))) aNil)))))
    (seqG (setG 9 (eOp addD (varR 9) (eLst (aCons (eTup (aCons (eOp idxD (varR 7) (conR (.int 1))) (aCons (eOp idxD (varR 7) (conR (.int 0))) (aCons (varR 5) (aCons (eOp addD (varR 5) (conR (.int 1))) aNil))))) (aCons (eTup (aCons (varR 6) (aCons (eOp modD (eOp addD (varR 6) (conR (.int 1))) (eOp idxD (varR 1) (conR (.int 0)))) (aCons (varR 5) (aCons (eOp addD (varR 5) (conR (.int 1))) aNil))))) aNil)))))
    (retG (eOp idxD (varR 9) (eOp modD (eOp fdivD (varR 0) (conR (.int 3))) (conR (.int 12))))))))))))
noncomputable def g_L_wrong_run : Ev → Fl := (seqG (setG 3 (eOp idxD (varR 2) (conR (.int 0))))
    (seqG (setG 4 (eOp idxD (eLst (aCons (eOp addD (varR 3) (conR (.int 1))) (aCons (eOp addD (eOp powD (conR (.int 10)) (conR (.int 58))) (varR 0)) aNil))) (eOp modD (eOp fdivD (varR 0) (conR (.int 7))) (conR (.int 2)))))
    (seqG (setG 5 (eOp modD (eOp fdivD (varR 0) (conR (.int 14))) (eCall max2D (aCons (conR (.int 1)) (aCons (eOp addD (varR 3) (conR (.int 1))) aNil)))))
    (seqG (setG 6 (eOp modD (varR 0) (eOp idxD (varR 1) (conR (.int 0)))))
    (seqG (setG 7 (eTup (aCons (varR 6) (aCons (varR 6) (aCons (conR (.int 1)) aNil)))))
    (seqG (ifG (eOp neD (eOp idxD (varR 1) (conR (.int 1))) (eLst aNil)) (setG 7 (eOp idxD (eOp idxD (varR 1) (conR (.int 1))) (eOp modD (eOp fdivD (varR 0) (conR (.int 100))) (eCall lenD (aCons (eOp idxD (varR 1) (conR (.int 1))) aNil))))) (.nx))
    g_L_wrong_run_j1))))))
noncomputable def φ_L_wrong_run : List D → R := runF 7 g_L_wrong_run
noncomputable abbrev s_L_wrong_sign : Stmt := top 28
noncomputable abbrev N_L_wrong_sign : List Str := ["_law_number", "_law_net_here", "_law_tale_here", "_law_far", "_law_house", "_law_turn", "_law_some"]
noncomputable abbrev ps_L_wrong_sign : List Str := ["_law_number", "_law_net_here", "_law_tale_here"]
noncomputable def g_L_wrong_sign : Ev → Fl := (seqG (setG 3 (eOp idxD (eLst (aCons (conR (.int 1)) (aCons (eOp addD (eOp powD (conR (.int 10)) (conR (.int 58))) (varR 0)) aNil))) (eOp modD (eOp fdivD (varR 0) (conR (.int 7))) (conR (.int 2)))))
    (seqG (setG 4 (eOp modD (varR 0) (eOp idxD (varR 1) (conR (.int 0)))))
    (seqG (setG 5 (eOp modD (eOp fdivD (varR 0) (conR (.int 5))) (eCall max2D (aCons (conR (.int 1)) (aCons (eOp addD (eOp idxD (varR 2) (conR (.int 0))) (conR (.int 1))) aNil)))))
    (seqG (setG 6 (eLst (aCons (eTup (aCons (eOp addD (eOp subD (eOp idxD (varR 1) (conR (.int 0))) (conR (.int 1))) (varR 3)) (aCons (varR 5) (aCons (conR (.str (Str.ofString "a"))) aNil)))) (aCons (eTup (aCons (eUn negD (varR 3)) (aCons (varR 5) (aCons (conR (.str (Str.ofString "b"))) aNil)))) (aCons (eTup (aCons (varR 4) (aCons (eUn negD (varR 3)) (aCons (conR (.str (Str.ofString "a"))) aNil)))) (aCons (eTup (aCons (varR 4) (aCons (eOp addD (eOp idxD (varR 2) (conR (.int 0))) (varR 3)) (aCons (conR (.str (Str.ofString "b"))) aNil)))) aNil))))))
    (retG (eOp idxD (varR 6) (eOp modD (eOp fdivD (varR 0) (conR (.int 3))) (conR (.int 4)))))))))
noncomputable def φ_L_wrong_sign : List D → R := runF 4 g_L_wrong_sign
noncomputable abbrev s_L_spoiled : Stmt := top 29
noncomputable abbrev N_L_spoiled : List Str := ["_law_number", "_law_net_here", "_law_tale_here", "_law_way", "_law_last", "_law_runs", "_law_signs_here", "_law_at", "_law_start", "_law_goal", "_law_left", "_law_come"]
noncomputable abbrev ps_L_spoiled : List Str := ["_law_number", "_law_net_here", "_law_tale_here"]
noncomputable def g_L_spoiled_j1 : Ev → Fl := (ifG (eOp eqD (varR 3) (conR (.int 6))) (setG 5 (eOp addD (eSl (varR 5) oNo (oSome (varR 7))) (eSl (varR 5) (oSome (eOp addD (varR 7) (conR (.int 1)))) oNo))) (.nx))
noncomputable def g_L_spoiled_j2 : Ev → Fl := (seqG (ifG (eOp eqD (varR 3) (conR (.int 5))) (setG 5 (eOp addD (eOp addD (eSl (varR 5) oNo (oSome (varR 7))) (eLst (aCons (eTup (aCons (varR 8) (aCons (varR 9) (aCons (varR 10) (aCons (eCall max2D (aCons (varR 11) (aCons (eOp subD (varR 4) (eOp modD (eOp fdivD (varR 0) (conR (.int 5))) (conR (.int 2)))) aNil))) aNil))))) aNil))) (eSl (varR 5) (oSome (eOp addD (varR 7) (conR (.int 1)))) oNo))) (.nx))
    g_L_spoiled_j1)
noncomputable def g_L_spoiled_j3 : Ev → Fl := (frzG 6 (frzG 5 (retG (eTup (aCons (varR 4) (aCons (varR 5) (aCons (varR 6) aNil)))))))
noncomputable def g_L_spoiled_j4 : Ev → Fl := (seqG (ifG (eAnd (eOp eqD (varR 3) (conR (.int 7))) (eOp eqD (eOp modD (varR 0) (conR (.int 5))) (conR (.int 1)))) (setG 4 (eOp idxD (eLst (aCons (eUn negD (conR (.int 1))) (aCons (conR (.int 61)) (aCons (eOp powD (conR (.int 10)) (conR (.int 58))) (aCons (eUn negD (eOp powD (conR (.int 10)) (conR (.int 58)))) aNil))))) (eOp modD (eOp fdivD (varR 0) (conR (.int 5))) (conR (.int 4))))) (.nx))
    g_L_spoiled_j3)
noncomputable def g_L_spoiled_j5 : Ev → Fl := (seqG (ifG (eAnd (eOp gtD (varR 3) (conR (.int 3))) (eAnd (eOp ltD (varR 3) (conR (.int 7))) (eOp neD (varR 5) (eLst aNil)))) (seqG (setG 7 (eOp modD (varR 0) (eCall lenD (aCons (varR 5) aNil))))
    (seqG (asgG (bTup 4 (bCons (bName 8) (bCons (bName 9) (bCons (bName 10) (bCons (bName 11) bNil))))) (eOp idxD (varR 5) (varR 7)))
    (seqG (ifG (eOp eqD (varR 3) (conR (.int 4))) (frzG 5 (setG 5 (eFn 3 φ_L_put (aCons (varR 5) (aCons (eTup (aCons (varR 8) (aCons (varR 9) (aCons (varR 10) (aCons (eOp idxD (eLst (aCons (varR 11) (aCons (varR 4) aNil))) (eOp modD (eOp fdivD (varR 0) (conR (.int 5))) (conR (.int 2)))) aNil))))) (aCons (eOp fdivD (varR 0) (conR (.int 11))) aNil)))))) (.nx))
    g_L_spoiled_j2))) (.nx))
    g_L_spoiled_j4)
noncomputable def g_L_spoiled_j6 : Ev → Fl := (seqG (ifG (eAnd (eOp eqD (varR 3) (conR (.int 3))) (eOp neD (varR 6) (eLst aNil))) (frzG 6 (setG 6 (eFn 3 φ_L_put (aCons (varR 6) (aCons (eOp idxD (varR 6) (eOp modD (varR 0) (eCall lenD (aCons (varR 6) aNil)))) (aCons (eOp fdivD (varR 0) (conR (.int 11))) aNil)))))) (.nx))
    g_L_spoiled_j5)
noncomputable def g_L_spoiled_j7 : Ev → Fl := (seqG (ifG (eOp eqD (varR 3) (conR (.int 2))) (frzG 6 (setG 6 (eFn 3 φ_L_put (aCons (varR 6) (aCons (eFn 3 φ_L_wrong_sign (aCons (varR 0) (aCons (varR 1) (aCons (varR 2) aNil)))) (aCons (eOp fdivD (varR 0) (conR (.int 11))) aNil)))))) (.nx))
    g_L_spoiled_j6)
noncomputable def g_L_spoiled : Ev → Fl := (seqG (setG 3 (eOp modD (varR 0) (conR (.int 9))))
    (seqG (asgG (bTup 3 (bCons (bName 4) (bCons (bName 5) (bCons (bName 6) bNil)))) (varR 2))
    (seqG (setG 0 (eOp fdivD (varR 0) (conR (.int 9))))
    (seqG (ifG (eOp ltD (varR 3) (conR (.int 2))) (frzG 5 (setG 5 (eFn 3 φ_L_put (aCons (varR 5) (aCons (eFn 3 φ_L_wrong_run (aCons (varR 0) (aCons (varR 1) (aCons (varR 2) aNil)))) (aCons (eOp fdivD (varR 0) (conR (.int 11))) aNil)))))) (.nx))
    g_L_spoiled_j7))))
noncomputable def φ_L_spoiled : List D → R := runF 9 g_L_spoiled
noncomputable abbrev s_L_signs : Stmt := top 24
noncomputable abbrev N_L_signs : List Str := ["_law_script", "_law_net_here", "_law_last", "_law_signs_here", "_law_at", "_law_names", "_law_k", "_law_number", "_law_sign"]
noncomputable abbrev ps_L_signs : List Str := ["_law_script", "_law_net_here", "_law_last"]
noncomputable def g_L_signs_b1 : Ev → Fl := (seqG (setG 7 (eFn 2 φ_L_mix (aCons (eFn 2 φ_L_cell_at (aCons (varR 0) (aCons (eOp addD (conR (.int 3)) (varR 6)) aNil))) (aCons (eOp addD (conR (.int 500)) (varR 6)) aNil))))
    (seqG (setG 8 (eTup (aCons (eOp modD (varR 7) (eOp idxD (varR 1) (conR (.int 0)))) (aCons (eOp modD (eOp fdivD (varR 7) (conR (.int 5))) (eOp addD (varR 2) (conR (.int 1)))) (aCons (eOp idxD (varR 5) (eOp modD (eOp fdivD (varR 7) (conR (.int 300))) (conR (.int 4)))) aNil)))))
    (ifG (eOp notInD (varR 8) (varR 3)) (appG 3 (varR 8)) (.nx))))
noncomputable def g_L_signs_j1 : Ev → Fl := (seqG (forG (iRngW (aCons (eOp modD (eFn 2 φ_L_mix (aCons (eFn 2 φ_L_cell_at (aCons (varR 0) (aCons (conR (.int 2)) aNil))) (aCons (conR (.int 2)) aNil))) (conR (.int 5))) aNil)) (bName 6) g_L_signs_b1)
    (retVarG 3))
noncomputable def g_L_signs : Ev → Fl := (seqG (setG 3 (eLst aNil))
    (seqG (setG 4 (eOp modD (eOp fdivD (eFn 2 φ_L_cell_at (aCons (varR 0) (aCons (conR (.int 2)) aNil))) (conR (.int 25))) (conR (.int 12))))
    (seqG (setG 5 (eLst (aCons (conR (.str (Str.ofString "a"))) (aCons (conR (.str (Str.ofString "ab"))) (aCons (conR (.str (Str.ofString "ba"))) (aCons (conR (.str (Str.ofString "zzzzzzzzzzzz"))) aNil))))))
    (seqG (ifG (eOp eqD (eOp modD (eOp fdivD (eFn 2 φ_L_cell_at (aCons (varR 0) (aCons (conR (.int 2)) aNil))) (conR (.int 300))) (conR (.int 2))) (conR (.int 1))) (setG 5 (eLst (aCons (conR (.str (Str.ofString "aaaaaaaaaaaa"))) (aCons (eOp addD (eOp addD (eOp mulD (conR (.str (Str.ofString "a"))) (varR 4)) (conR (.str (Str.ofString "b")))) (eOp mulD (conR (.str (Str.ofString "a"))) (eOp subD (conR (.int 11)) (varR 4)))) (aCons (eOp addD (eOp addD (eOp mulD (conR (.str (Str.ofString "a"))) (varR 4)) (conR (.str (Str.ofString "c")))) (eOp mulD (conR (.str (Str.ofString "a"))) (eOp subD (conR (.int 11)) (varR 4)))) (aCons (eOp mulD (conR (.str (Str.ofString "a"))) (conR (.int 11))) aNil)))))) (.nx))
    g_L_signs_j1))))
noncomputable def φ_L_signs : List D → R := runF 6 g_L_signs
noncomputable abbrev s_L_tale : Stmt := top 25
noncomputable abbrev N_L_tale : List Str := ["_law_script", "_law_net_here", "_law_last", "_law_runs", "_law_k", "_law_start", "_law_goal", "_law_most", "_law_left", "_law_number", "_law_come"]
noncomputable abbrev ps_L_tale : List Str := ["_law_script", "_law_net_here"]
noncomputable def g_L_tale_j1 : Ev → Fl := (ifG (eOp leD (varR 10) (varR 2)) (frzG 10 (appG 3 (eTup (aCons (varR 5) (aCons (varR 6) (aCons (varR 8) (aCons (varR 10) aNil))))))) (.nx))
noncomputable def g_L_tale_j2 : Ev → Fl := (seqG (ifG (eAnd (eOp notND (varR 7) (conR .non)) (eOp eqD (eOp modD (varR 9) (conR (.int 3))) (conR (.int 0)))) (setG 10 (eOp addD (varR 8) (varR 7))) (.nx))
    g_L_tale_j1)
noncomputable def g_L_tale_j3 : Ev → Fl := (seqG (ifG (eOp notND (varR 7) (conR .non)) (setG 10 (eOp addD (eOp addD (varR 8) (conR (.int 1))) (eOp modD (eOp fdivD (varR 9) (conR (.int 3))) (eCall min2D (aCons (varR 7) (aCons (conR (.int 4)) aNil)))))) (.nx))
    g_L_tale_j2)
noncomputable def g_L_tale_b1 : Ev → Fl := (seqG (setG 4 (eOp addD (varR 4) (conR (.int 1))))
    (seqG (setG 9 (eFn 2 φ_L_mix (aCons (eFn 2 φ_L_cell_at (aCons (varR 0) (aCons (eOp addD (conR (.int 3)) (eOp modD (varR 4) (conR (.int 60)))) aNil))) (aCons (varR 4) aNil))))
    (seqG (setG 10 (eOp addD (eOp addD (varR 8) (conR (.int 1))) (eOp modD (eOp fdivD (varR 9) (conR (.int 3))) (conR (.int 4)))))
    (seqG (ifG (eAnd (eOp isND (varR 7) (conR .non)) (eOp eqD (eOp modD (varR 9) (conR (.int 3))) (conR (.int 0)))) (.ct) (.nx))
    g_L_tale_j3))))
noncomputable def g_L_tale_b2 : Ev → Fl := (forG (iRngW (aCons (varR 2) aNil)) (bName 8) g_L_tale_b1)
noncomputable def g_L_tale_j4 : Ev → Fl := (frzG 3 (retG (eTup (aCons (varR 2) (aCons (varR 3) (aCons (eFn 3 φ_L_signs (aCons (varR 0) (aCons (varR 1) (aCons (varR 2) aNil)))) aNil))))))
noncomputable def g_L_tale_j5 : Ev → Fl := (seqG (ifG (eOp eqD (eOp modD (varR 2) (conR (.int 2))) (conR (.int 1))) (setG 3 (eOp stepD (varR 3) (eUn negD (conR (.int 1))))) (.nx))
    g_L_tale_j4)
noncomputable def g_L_tale_j6 : Ev → Fl := (seqG (setG 3 (eLst aNil))
    (seqG (setG 4 (conR (.int 0)))
    (seqG (forG (iLst (eOp idxD (varR 1) (conR (.int 1)))) (bTup 3 (bCons (bName 5) (bCons (bName 6) (bCons (bName 7) bNil)))) g_L_tale_b2)
    g_L_tale_j5)))
noncomputable def g_L_tale : Ev → Fl := (seqG (setG 2 (eOp modD (eFn 2 φ_L_cell_at (aCons (varR 0) (aCons (conR (.int 2)) aNil))) (conR (.int 9))))
    (seqG (ifG (eOp eqD (eOp modD (eOp fdivD (eFn 2 φ_L_mix (aCons (eFn 2 φ_L_cell_at (aCons (varR 0) (aCons (conR (.int 0)) aNil))) (aCons (conR (.int 1)) aNil))) (conR (.int 8))) (conR (.int 8))) (conR (.int 2))) (setG 2 (eOp modD (eFn 2 φ_L_cell_at (aCons (varR 0) (aCons (conR (.int 2)) aNil))) (conR (.int 25)))) (.nx))
    g_L_tale_j6))
noncomputable def φ_L_tale : List D → R := runF 9 g_L_tale
noncomputable abbrev s_law : Stmt := top 36
noncomputable abbrev N_law : List Str := ["_law_script", "_law_net_here", "_law_tale_here", "_law_k", "_law_handed", "_law_due_here"]
noncomputable abbrev ps_law : List Str := ["_law_script"]
noncomputable def g_law_b1 : Ev → Fl := (frzG 2 (frzG 1 (setG 2 (eFn 3 φ_L_spoiled (aCons (eFn 2 φ_L_mix (aCons (eFn 2 φ_L_cell_at (aCons (varR 0) (aCons (eOp addD (conR (.int 5)) (varR 3)) aNil))) (aCons (eOp addD (conR (.int 700)) (varR 3)) aNil))) (aCons (varR 1) (aCons (varR 2) aNil)))))))
noncomputable def g_law_j1 : Ev → Fl := (retG (eOp eqD (eFn 2 φ_L_found (aCons (eOp idxD (varR 4) (conR (.int 0))) (aCons (eOp idxD (varR 4) (conR (.int 1))) aNil))) (varR 5)))
noncomputable def g_law_j2 : Ev → Fl := (seqG (setG 4 (eTup (aCons (eTup (aCons (eOp idxD (varR 1) (conR (.int 0))) (aCons (eCall listD (aCons (eOp idxD (varR 1) (conR (.int 1))) aNil)) aNil))) (aCons (eTup (aCons (eOp idxD (varR 2) (conR (.int 0))) (aCons (eCall listD (aCons (eOp idxD (varR 2) (conR (.int 1))) aNil)) (aCons (eCall listD (aCons (eOp idxD (varR 2) (conR (.int 2))) aNil)) aNil)))) aNil))))
    (frzG 2 (frzG 1 (seqG (setG 5 (eFn 2 φ_L_due (aCons (varR 1) (aCons (varR 2) aNil))))
    (frzG 2 (frzG 1 (seqG (ifG (eOr (eOp neD (eFn 2 φ_L_found (aCons (eOp idxD (varR 4) (conR (.int 0))) (aCons (eOp idxD (varR 4) (conR (.int 1))) aNil))) (varR 5)) (eOp neD (varR 4) (eTup (aCons (varR 1) (aCons (varR 2) aNil))))) (retG (conR (.bl false))) (.nx))
    g_law_j1)))))))
noncomputable def g_law : Ev → Fl := (seqG (setG 1 (eFn 1 φ_L_net (aCons (varR 0) aNil)))
    (frzG 1 (seqG (setG 2 (eFn 2 φ_L_tale (aCons (varR 0) (aCons (varR 1) aNil))))
    (seqG (forG (iRngW (aCons (eOp modD (eFn 2 φ_L_mix (aCons (eFn 2 φ_L_cell_at (aCons (varR 0) (aCons (conR (.int 4)) aNil))) (aCons (conR (.int 4)) aNil))) (conR (.int 4))) aNil)) (bName 3) g_law_b1)
    g_law_j2))))
noncomputable def φ_law : List D → R := runF 5 g_law
section
variable {P : Program} {w : World} {K : PySem.W.Frag} {mg : Str → Option Value} {base : Heap}
theorem sc_L_cell_at : FnScope N_L_cell_at ps_L_cell_at (defScope s_L_cell_at) := ⟨rfl, rfl, rfl, by decide +kernel, rfl, by decide +kernel, by decide +kernel⟩
theorem ok_L_cell_at {f : Addr} {fd : FuncData} (Fn : Fun K "_law_cell_at" "_law_cell_at" s_L_cell_at f fd) (m_len : mg "len" = none) : FnOk P w K mg base CX0 1 f fd ps_L_cell_at (spV0 K φ_L_cell_at 2) :=
  fn_ok (N := N_L_cell_at) (ps := ps_L_cell_at) (k := 0) (g := g_L_cell_at) Fn sc_L_cell_at (fun cdv A outer s H E F0 hr => let hu := room_u hr; (vs_cons (vs_if (vt_cmp c_lt (v_var 1) (v_len m_len (va_cons (v_var 0) va_nil))) (vs_one (vs_ret (v_idx hu (v_var 0) (v_var 1)))) vs_nil)
    (vs_one (vs_ret v_int))))
theorem sc_L_double : FnScope N_L_double ps_L_double (defScope s_L_double) := ⟨rfl, rfl, rfl, by decide +kernel, rfl, by decide +kernel, by decide +kernel⟩
theorem ok_L_double {f : Addr} {fd : FuncData} (Fn : Fun K "_law_double" "_law_double" s_L_double f fd) (m_len : mg "len" = none) (m_set : mg "set" = none) : FnOk P w K mg base CX0 1 f fd ps_L_double (spV0 K φ_L_double 2) :=
  fn_ok (N := N_L_double) (ps := ps_L_double) (k := 0) (g := g_L_double) Fn sc_L_double (fun cdv A outer s H E F0 hr => let hu := room_u hr; (vs_cons (vs_comp 2 (osc := defScope s_L_double) (N := N_L_double) ["_law_run"] ([none] : List (Option Nat)) [0] rfl rfl sc_L_double.nd ⟨rfl, by decide +kernel, by decide +kernel, by decide +kernel, rfl, by decide +kernel⟩ rfl (vi_list (v_idx hu (v_var 1) v_int)) (bo_name 0) (fun _ _ _ _ => ⟨(vg_name 0 (show (["_law_run"] : List Str).Nodup by decide +kernel)), vf_nil, (v_sl (v_var 0) vo_none (vo_some v_int))⟩))
    (vs_one (vs_ret (v_or (v_cmp c_lt (v_lenset rfl hu m_len m_set (v_var 2)) (v_len m_len (va_cons (v_var 2) va_nil))) (v_one (v_cmp c_lt (v_lenset rfl hu m_len m_set (v_idx hu (v_var 1) v_int)) (v_len m_len (va_cons (v_idx hu (v_var 1) v_int) va_nil)))))))))
theorem sc_L_late : FnScope N_L_late ps_L_late (defScope s_L_late) := ⟨rfl, rfl, rfl, by decide +kernel, rfl, by decide +kernel, by decide +kernel⟩
theorem ok_L_late {f : Addr} {fd : FuncData} (Fn : Fun K "_law_late" "_law_late" s_L_late f fd) (m_range : mg "range" = none) : FnOk P w K mg base CX0 1 f fd ps_L_late (spV0 K φ_L_late 2) :=
  fn_ok (N := N_L_late) (ps := ps_L_late) (k := 0) (g := g_L_late) Fn sc_L_late (fun cdv A outer s H E F0 hr => let hu := room_u hr; (vs_cons (vs_for .never rfl (vi_list (v_idx hu (v_var 0) v_int)) (vg_tup rfl (vg_cons (vg_name 2 sc_L_late.nd) (vg_cons (vg_name 3 sc_L_late.nd) (vg_cons (vg_name 4 sc_L_late.nd) vg_nil))))
    (vs_cons (vs_if (vt_cmp c_isN (v_var 4) v_non) (vs_one vs_continue) vs_nil)
    (vs_cons (vs_set 5 sc_L_late.nd (v_lst va_nil))
    (vs_cons (vs_for .never rfl (vi_list (v_idx hu (v_var 1) v_int)) (vg_name 6 sc_L_late.nd)
    (vs_one (vs_if (vt_cmp (c_eq hu) (v_sl (v_var 6) vo_none (vo_some v_int)) (v_tup (va_cons (v_var 2) (va_cons (v_var 3) va_nil)))) (vs_cons (vs_app 5 (v_idx hu (v_var 6) v_int))
    (vs_one (vs_if (vt_cmp c_gt (v_idx hu (v_var 6) v_int) (v_add (v_idx hu (v_var 6) v_int) (v_var 4))) (vs_one (vs_ret v_bl)) vs_nil))) vs_nil)))
    (vs_one (vs_for .never rfl (vi_rngW m_range (va_cons (v_add (v_sub (v_idx hu (v_var 1) v_int) (v_var 4)) v_int) va_nil)) (vg_name 7 sc_L_late.nd)
    (vs_one (vs_if (vt_cmp (c_notin hu) (v_var 7) (v_var 5)) (vs_one (vs_ret v_bl)) vs_nil))))))))
    (vs_one (vs_ret v_bl))))
theorem sc_L_no_place : FnScope N_L_no_place ps_L_no_place (defScope s_L_no_place) := ⟨rfl, rfl, rfl, by decide +kernel, rfl, by decide +kernel, by decide +kernel⟩
theorem ok_L_no_place {f : Addr} {fd : FuncData} (Fn : Fun K "_law_no_place" "_law_no_place" s_L_no_place f fd) : FnOk P w K mg base CX0 1 f fd ps_L_no_place (spV0 K φ_L_no_place 2) :=
  fn_ok (N := N_L_no_place) (ps := ps_L_no_place) (k := 0) (g := g_L_no_place) Fn sc_L_no_place (fun cdv A outer s H E F0 hr => let hu := room_u hr; (vs_cons (vs_set 2 sc_L_no_place.nd (v_comp (osc := defScope s_L_no_place) (N := N_L_no_place) ["_law_path"] ([none] : List (Option Nat)) [0] rfl rfl ⟨rfl, by decide +kernel, by decide +kernel, by decide +kernel, rfl, by decide +kernel⟩ rfl (vi_list (v_idx hu (v_var 0) v_int)) (bo_name 0) (fun _ _ _ _ => ⟨(vg_name 0 (show (["_law_path"] : List Str).Nodup by decide +kernel)), vf_nil, (v_sl (v_var 0) vo_none (vo_some v_int))⟩)))
    (vs_frz 2 (vs_cons (vs_if (vt_cmp (c_ne hu) (v_comp (osc := defScope s_L_no_place) (N := N_L_no_place) ["_law_paths", "_law_run"] ([some 2, none] : List (Option Nat)) [1] rfl rfl ⟨rfl, by decide +kernel, by decide +kernel, by decide +kernel, rfl, by decide +kernel⟩ rfl (vi_list (v_idx hu (v_var 1) v_int)) (bo_name 1) (fun _ _ _ _ => ⟨(vg_name 1 (show (["_law_paths", "_law_run"] : List Str).Nodup by decide +kernel)), (vf_one (vt_cmp (c_notin hu) (v_sl (v_var 1) vo_none (vo_some v_int)) (v_var 0))), (v_var 1)⟩)) (v_lst va_nil)) (vs_one (vs_ret v_bl)) vs_nil)
    (vs_one (vs_ret (v_cmp (c_ne hu) (v_comp (osc := defScope s_L_no_place) (N := N_L_no_place) ["_law_net_here", "_law_sign"] ([some 0, none] : List (Option Nat)) [1] rfl rfl ⟨rfl, by decide +kernel, by decide +kernel, by decide +kernel, rfl, by decide +kernel⟩ rfl (vi_list (v_idx hu (v_var 1) v_int)) (bo_name 1) (fun _ _ _ _ => ⟨(vg_name 1 (show (["_law_net_here", "_law_sign"] : List Str).Nodup by decide +kernel)), (vf_one (vt_w (vw_or (vt_cmp c_lt (v_idx hu (v_var 1) v_int) v_int) (vw_or1 (vt_cmp c_ge (v_idx hu (v_var 1) v_int) (v_idx hu (v_var 0) v_int)))))), (v_var 1)⟩)) (v_lst va_nil))))))))
theorem sc_L_out : FnScope N_L_out ps_L_out (defScope s_L_out) := ⟨rfl, rfl, rfl, by decide +kernel, rfl, by decide +kernel, by decide +kernel⟩
theorem ok_L_out {f : Addr} {fd : FuncData} (Fn : Fun K "_law_out" "_law_out" s_L_out f fd) : FnOk P w K mg base CX0 1 f fd ps_L_out (spV0 K φ_L_out 2) :=
  fn_ok (N := N_L_out) (ps := ps_L_out) (k := 0) (g := g_L_out) Fn sc_L_out (fun cdv A outer s H E F0 hr => let hu := room_u hr; (vs_cons (vs_if (vt_w (vw_or (vt_cmp c_lt (v_idx hu (v_var 1) v_int) v_int) (vw_or1 (vt_cmp c_gt (v_idx hu (v_var 1) v_int) v_int)))) (vs_one (vs_ret v_bl)) vs_nil)
    (vs_cons (vs_for .never rfl (vi_list (v_idx hu (v_var 1) v_int)) (vg_name 2 sc_L_out.nd)
    (vs_one (vs_if (vt_w (vw_or (vt_cmp c_lt (v_idx hu (v_var 2) v_int) v_int) (vw_or (vt_cmp c_le (v_idx hu (v_var 2) v_int) (v_idx hu (v_var 2) v_int)) (vw_or1 (vt_cmp c_gt (v_idx hu (v_var 2) v_int) (v_idx hu (v_var 1) v_int)))))) (vs_one (vs_ret v_bl)) vs_nil)))
    (vs_one (vs_ret (v_cmp (c_ne hu) (v_comp (osc := defScope s_L_out) (N := N_L_out) ["_law_tale_here", "_law_sign"] ([some 1, none] : List (Option Nat)) [1] rfl rfl ⟨rfl, by decide +kernel, by decide +kernel, by decide +kernel, rfl, by decide +kernel⟩ rfl (vi_list (v_idx hu (v_var 1) v_int)) (bo_name 1) (fun _ _ _ _ => ⟨(vg_name 1 (show (["_law_tale_here", "_law_sign"] : List Str).Nodup by decide +kernel)), (vf_one (vt_w (vw_or (vt_cmp c_lt (v_idx hu (v_var 1) v_int) v_int) (vw_or1 (vt_cmp c_gt (v_idx hu (v_var 1) v_int) (v_idx hu (v_var 0) v_int)))))), (v_var 1)⟩)) (v_lst va_nil)))))))
theorem sc_L_due : FnScope N_L_due ps_L_due (defScope s_L_due) := ⟨rfl, rfl, rfl, by decide +kernel, rfl, by decide +kernel, by decide +kernel⟩
theorem ok_L_due {f : Addr} {fd : FuncData} (Fn : Fun K "_law_due" "_law_due" s_L_due f fd) (m_int : mg "int" = none) (C_L_double : Callee P w K mg base 1 "_law_double" 2 φ_L_double) (C_L_late : Callee P w K mg base 1 "_law_late" 2 φ_L_late) (C_L_no_place : Callee P w K mg base 1 "_law_no_place" 2 φ_L_no_place) (C_L_out : Callee P w K mg base 1 "_law_out" 2 φ_L_out) : FnOk P w K mg base CX0 2 f fd ps_L_due (spV0 K φ_L_due 2) :=
  fn_ok (N := N_L_due) (ps := ps_L_due) (k := 1) (g := g_L_due) Fn sc_L_due (fun cdv A outer s H E F0 hr => (vs_cons (vs_if (vt_val (v_fn C_L_no_place (hr.mono (by decide)) (va_cons (v_var 0) (va_cons (v_var 1) va_nil)))) (vs_one (vs_ret v_int)) vs_nil)
    (vs_cons (vs_if (vt_val (v_fn C_L_out (hr.mono (by decide)) (va_cons (v_var 0) (va_cons (v_var 1) va_nil)))) (vs_one (vs_ret v_int)) vs_nil)
    (vs_cons (vs_if (vt_val (v_fn C_L_double (hr.mono (by decide)) (va_cons (v_var 0) (va_cons (v_var 1) va_nil)))) (vs_one (vs_ret v_int)) vs_nil)
    (vs_one (vs_ret (v_mul v_int (v_intc m_int (va_cons (v_fn C_L_late (hr.mono (by decide)) (va_cons (v_var 0) (va_cons (v_var 1) va_nil))) va_nil)))))))))
theorem sc_P_check_all_came : FnScope N_P_check_all_came ps_P_check_all_came (defScope s_P_check_all_came) := ⟨rfl, rfl, rfl, by decide +kernel, rfl, by decide +kernel, by decide +kernel⟩
theorem ok_P_check_all_came {f : Addr} {fd : FuncData} (Fn : Fun K "check_all_came" "check_all_came" s_P_check_all_came f fd) {cls : Addr → Addr} (m_range : mg "range" = none) (ek_TooLate : ExK K (cls 4)) (em_TooLate : mg "TooLate" = some (.ref (cls 4))) : FnOk P w K mg base (CXe P w) 1 f fd ps_P_check_all_came (spX K cls φ_P_check_all_came 3) :=
  fn_okX (cls := cls) (N := N_P_check_all_came) (ps := ps_P_check_all_came) (k := 0) (g := g_P_check_all_came) Fn sc_P_check_all_came (fun cdv A outer s H E F0 hr rz => let hu := room_u hr; (vs_one (vs_for .leaving rfl (vi_rngW m_range (va_cons (v_add (v_sub (v_var 1) (v_idx hu (v_var 0) v_int)) v_int) va_nil)) (vg_name 3 sc_P_check_all_came.nd)
    (vs_one (vs_if (vt_cmp (c_notin hu) (v_tup (va_cons (v_idx hu (v_var 0) v_int) (va_cons (v_idx hu (v_var 0) v_int) (va_cons (v_var 3) va_nil)))) (v_var 2)) (vs_one (vs_raise (cls := cls) 4 rz ek_TooLate em_TooLate hr.hd (vmj (jpc (vps 12) (jpc (vpr (v_var 0) hr.gd hr.units) (jpc (vps 25) (jpc (vpi (v_var 3)) (jpc (vps 17) jpn)))))))) vs_nil)))))
theorem sc_P_path_mosts : FnScope N_P_path_mosts ps_P_path_mosts (defScope s_P_path_mosts) := ⟨rfl, rfl, rfl, by decide +kernel, rfl, by decide +kernel, by decide +kernel⟩
theorem ok_P_path_mosts {f : Addr} {fd : FuncData} (Fn : Fun K "path_mosts" "path_mosts" s_P_path_mosts f fd) : FnOk P w K mg base CX0 1 f fd ps_P_path_mosts (spV0 K φ_P_path_mosts 1) :=
  fn_ok (N := N_P_path_mosts) (ps := ps_P_path_mosts) (k := 0) (g := g_P_path_mosts) Fn sc_P_path_mosts (fun cdv A outer s H E F0 hr => let hu := room_u hr; (vs_cons (vs_set 1 sc_P_path_mosts.nd v_dT)
    (vs_cons (vs_for .never rfl (vi_list (v_idx hu (v_var 0) v_int)) (vg_tup rfl (vg_cons (vg_name 2 sc_P_path_mosts.nd) (vg_cons (vg_name 3 sc_P_path_mosts.nd) (vg_cons (vg_name 4 sc_P_path_mosts.nd) vg_nil))))
    (vs_one (vs_setit hu 1 (v_var 4) (v_tup (va_cons (v_var 2) (va_cons (v_var 3) va_nil))))))
    (vs_one (vs_retv 1)))))
theorem sc_P_check_runs_in_time : FnScope N_P_check_runs_in_time ps_P_check_runs_in_time (defScope s_P_check_runs_in_time) := ⟨rfl, rfl, rfl, by decide +kernel, rfl, by decide +kernel, by decide +kernel⟩
theorem ok_P_check_runs_in_time {f : Addr} {fd : FuncData} (Fn : Fun K "check_runs_in_time" "check_runs_in_time" s_P_check_runs_in_time f fd) {cls : Addr → Addr} (C_P_path_mosts : Callee P w K mg base 1 "path_mosts" 1 φ_P_path_mosts) (ek_TooLate : ExK K (cls 4)) (em_TooLate : mg "TooLate" = some (.ref (cls 4))) : FnOk P w K mg base (CXe P w) 2 f fd ps_P_check_runs_in_time (spX K cls φ_P_check_runs_in_time 2) :=
  fn_okX (cls := cls) (N := N_P_check_runs_in_time) (ps := ps_P_check_runs_in_time) (k := 1) (g := g_P_check_runs_in_time) Fn sc_P_check_runs_in_time (fun cdv A outer s H E F0 hr rz => let hu := room_u hr; (vs_cons (vs_set 2 sc_P_check_runs_in_time.nd (v_fn C_P_path_mosts (hr.mono (by decide)) (va_cons (v_var 0) va_nil)))
    (vs_one (vs_for .leaving rfl (vi_list (v_var 1)) (vg_name 3 sc_P_check_runs_in_time.nd)
    (vs_cons (vs_set 4 sc_P_check_runs_in_time.nd (v_idx hu (v_var 2) (v_tup (va_cons (v_idx hu (v_var 3) v_int) (va_cons (v_idx hu (v_var 3) v_int) va_nil)))))
    (vs_one (vs_if (vt_w (vw_and (vt_cmp c_notN (v_var 4) v_non) (vw_and1 (vt_cmp c_gt (v_idx hu (v_var 3) v_int) (v_add (v_idx hu (v_var 3) v_int) (v_var 4)))))) (vs_one (vs_raise (cls := cls) 4 rz ek_TooLate em_TooLate hr.hd (vmj (jpc (vps 35) (jpc (vpr (v_var 3) hr.gd hr.units) jpn))))) vs_nil)))))))
theorem sc_P_run_key : FnScope N_P_run_key ps_P_run_key (defScope s_P_run_key) := ⟨rfl, rfl, rfl, by decide +kernel, rfl, by decide +kernel, by decide +kernel⟩
theorem ok_P_run_key {f : Addr} {fd : FuncData} (Fn : Fun K "run_key" "run_key" s_P_run_key f fd) : FnOk P w K mg base CX0 1 f fd ps_P_run_key (spV0 K φ_P_run_key 1) :=
  fn_ok (N := N_P_run_key) (ps := ps_P_run_key) (k := 0) (g := g_P_run_key) Fn sc_P_run_key (fun cdv A outer s H E F0 hr => let hu := room_u hr; (vs_one (vs_ret (v_tup (va_cons (v_idx hu (v_var 0) v_int) (va_cons (v_idx hu (v_var 0) v_int) (va_cons (v_idx hu (v_var 0) v_int) va_nil)))))))
theorem sc_P_check_mosts : FnScope N_P_check_mosts ps_P_check_mosts (defScope s_P_check_mosts) := ⟨rfl, rfl, rfl, by decide +kernel, rfl, by decide +kernel, by decide +kernel⟩
theorem ok_P_check_mosts {f : Addr} {fd : FuncData} (Fn : Fun K "check_mosts" "check_mosts" s_P_check_mosts f fd) {cls : Addr → Addr} (C_P_check_all_came : CalleeX P w K mg base cls 1 "check_all_came" 3 φ_P_check_all_came) (C_P_check_runs_in_time : CalleeX P w K mg base cls 2 "check_runs_in_time" 2 φ_P_check_runs_in_time) (C_P_run_key : Callee P w K mg base 1 "run_key" 1 φ_P_run_key) : FnOk P w K mg base (CXe P w) 3 f fd ps_P_check_mosts (spX K cls φ_P_check_mosts 2) :=
  fn_okX (cls := cls) (N := N_P_check_mosts) (ps := ps_P_check_mosts) (k := 2) (g := g_P_check_mosts) Fn sc_P_check_mosts (fun cdv A outer s H E F0 hr rz => let hu := room_u hr; (vs_cons (vs_expr (v_fnX (cls := cls) rz C_P_check_runs_in_time (hr.mono (by decide)) (va_cons (v_var 0) (va_cons (v_idx hu (v_var 1) v_int) va_nil))))
    (vs_cons (vs_set 2 sc_P_check_mosts.nd v_dT)
    (vs_cons (vs_for .leaving rfl (vi_list (v_idx hu (v_var 1) v_int)) (vg_name 3 sc_P_check_mosts.nd)
    (vs_one (vs_setit hu 2 v_bl (v_fn C_P_run_key (hr.mono (by decide)) (va_cons (v_var 3) va_nil)))))
    (vs_one (vs_for .leaving rfl (vi_list (v_idx hu (v_var 0) v_int)) (vg_name 4 sc_P_check_mosts.nd)
    (vs_one (vs_if (vt_cmp c_notN (v_idx hu (v_var 4) v_int) v_non) (vs_one (vs_expr (v_fnX (cls := cls) rz C_P_check_all_came (hr.mono (by decide)) (va_cons (v_var 4) (va_cons (v_idx hu (v_var 1) v_int) (va_cons (v_var 2) va_nil)))))) vs_nil))))))))
theorem sc_P_is_house : FnScope N_P_is_house ps_P_is_house (defScope s_P_is_house) := ⟨rfl, rfl, rfl, by decide +kernel, rfl, by decide +kernel, by decide +kernel⟩
theorem ok_P_is_house {f : Addr} {fd : FuncData} (Fn : Fun K "is_house" "is_house" s_P_is_house f fd) : FnOk P w K mg base CX0 1 f fd ps_P_is_house (spV0 K φ_P_is_house 2) :=
  fn_ok (N := N_P_is_house) (ps := ps_P_is_house) (k := 0) (g := g_P_is_house) Fn sc_P_is_house (fun cdv A outer s H E F0 hr => (vs_one (vs_ret (v_chain c_le c_lt v_int (v_var 1) (v_var 0)))))
theorem sc_P_check_places : FnScope N_P_check_places ps_P_check_places (defScope s_P_check_places) := ⟨rfl, rfl, rfl, by decide +kernel, rfl, by decide +kernel, by decide +kernel⟩
theorem ok_P_check_places {f : Addr} {fd : FuncData} (Fn : Fun K "check_places" "check_places" s_P_check_places f fd) {cls : Addr → Addr} (C_P_is_house : Callee P w K mg base 1 "is_house" 2 φ_P_is_house) (C_P_path_mosts : Callee P w K mg base 1 "path_mosts" 1 φ_P_path_mosts) (ek_NoPath : ExK K (cls 1)) (em_NoPath : mg "NoPath" = some (.ref (cls 1))) : FnOk P w K mg base (CXe P w) 2 f fd ps_P_check_places (spX K cls φ_P_check_places 2) :=
  fn_okX (cls := cls) (N := N_P_check_places) (ps := ps_P_check_places) (k := 1) (g := g_P_check_places) Fn sc_P_check_places (fun cdv A outer s H E F0 hr rz => let hu := room_u hr; (vs_cons (vs_set 2 sc_P_check_places.nd (v_fn C_P_path_mosts (hr.mono (by decide)) (va_cons (v_var 0) va_nil)))
    (vs_cons (vs_for .leaving rfl (vi_list (v_idx hu (v_var 1) v_int)) (vg_name 3 sc_P_check_places.nd)
    (vs_one (vs_if (vt_cmp (c_notin hu) (v_tup (va_cons (v_idx hu (v_var 3) v_int) (va_cons (v_idx hu (v_var 3) v_int) va_nil))) (v_var 2)) (vs_one (vs_raise (cls := cls) 1 rz ek_NoPath em_NoPath hr.hd (vmj (jpc (vps 20) (jpc (vpr (v_var 3) hr.gd hr.units) jpn))))) vs_nil)))
    (vs_one (vs_for .leaving rfl (vi_list (v_idx hu (v_var 1) v_int)) (vg_name 4 sc_P_check_places.nd)
    (vs_one (vs_if (vt_not (vt_val (v_fn C_P_is_house (hr.mono (by decide)) (va_cons (v_idx hu (v_var 0) v_int) (va_cons (v_idx hu (v_var 4) v_int) va_nil))))) (vs_one (vs_raise (cls := cls) 1 rz ek_NoPath em_NoPath hr.hd (vmj (jpc (vps 22) (jpc (vpr (v_var 4) hr.gd hr.units) jpn))))) vs_nil)))))))
theorem sc_P_check_turns : FnScope N_P_check_turns ps_P_check_turns (defScope s_P_check_turns) := ⟨rfl, rfl, rfl, by decide +kernel, rfl, by decide +kernel, by decide +kernel⟩
theorem ok_P_check_turns {f : Addr} {fd : FuncData} (Fn : Fun K "check_turns" "check_turns" s_P_check_turns f fd) {cls : Addr → Addr} (g_LAST_BOUND : ∃ t, mg "LAST_BOUND" = some (.int 60 t)) (ek_OutOfTime : ExK K (cls 2)) (em_OutOfTime : mg "OutOfTime" = some (.ref (cls 2))) : FnOk P w K mg base (CXe P w) 1 f fd ps_P_check_turns (spX K cls φ_P_check_turns 1) :=
  fn_okX (cls := cls) (N := N_P_check_turns) (ps := ps_P_check_turns) (k := 0) (g := g_P_check_turns) Fn sc_P_check_turns (fun cdv A outer s H E F0 hr rz => let hu := room_u hr; (vs_cons (vs_set 1 sc_P_check_turns.nd (v_idx hu (v_var 0) v_int))
    (vs_cons (vs_if (vt_not (vt_chain c_le c_le v_int (v_var 1) (v_glob g_LAST_BOUND))) (vs_one (vs_raise (cls := cls) 2 rz ek_OutOfTime em_OutOfTime hr.hd (vmj (jpc (vps 33) (jpc (vpi (v_glob g_LAST_BOUND)) (jpc (vps 2) (jpc (vpi (v_var 1)) jpn))))))) vs_nil)
    (vs_cons (vs_for .leaving rfl (vi_list (v_idx hu (v_var 0) v_int)) (vg_name 2 sc_P_check_turns.nd)
    (vs_one (vs_if (vt_not (vt_chain3 c_le c_lt c_le v_int (v_idx hu (v_var 2) v_int) (v_idx hu (v_var 2) v_int) (v_var 1))) (vs_one (vs_raise (cls := cls) 2 rz ek_OutOfTime em_OutOfTime hr.hd (vmj (jpc (vps 31) (jpc (vpr (v_var 2) hr.gd hr.units) jpn))))) vs_nil)))
    (vs_one (vs_for .leaving rfl (vi_list (v_idx hu (v_var 0) v_int)) (vg_name 3 sc_P_check_turns.nd)
    (vs_one (vs_if (vt_not (vt_chain c_le c_le v_int (v_idx hu (v_var 3) v_int) (v_var 1))) (vs_one (vs_raise (cls := cls) 2 rz ek_OutOfTime em_OutOfTime hr.hd (vmj (jpc (vps 32) (jpc (vpr (v_var 3) hr.gd hr.units) jpn))))) vs_nil))))))))
theorem sc_P_check_unlike : FnScope N_P_check_unlike ps_P_check_unlike (defScope s_P_check_unlike) := ⟨rfl, rfl, rfl, by decide +kernel, rfl, by decide +kernel, by decide +kernel⟩
theorem ok_P_check_unlike {f : Addr} {fd : FuncData} (Fn : Fun K "check_unlike" "check_unlike" s_P_check_unlike f fd) {cls : Addr → Addr} (m_len : mg "len" = none) (m_set : mg "set" = none) (C_P_run_key : Callee P w K mg base 1 "run_key" 1 φ_P_run_key) (ek_Twice : ExK K (cls 3)) (em_Twice : mg "Twice" = some (.ref (cls 3))) : FnOk P w K mg base (CXe P w) 2 f fd ps_P_check_unlike (spX K cls φ_P_check_unlike 1) :=
  fn_okX (cls := cls) (N := N_P_check_unlike) (ps := ps_P_check_unlike) (k := 1) (g := g_P_check_unlike) Fn sc_P_check_unlike (fun cdv A outer s H E F0 hr rz => let hu := room_u hr; (vs_cons (vs_comp 1 (osc := defScope s_P_check_unlike) (N := N_P_check_unlike) ["run"] ([none] : List (Option Nat)) [0] rfl rfl sc_P_check_unlike.nd ⟨rfl, by decide +kernel, by decide +kernel, by decide +kernel, rfl, by decide +kernel⟩ rfl (vi_list (v_idx hu (v_var 0) v_int)) (bo_name 0) (fun _ _ _ _ => ⟨(vg_name 0 (show (["run"] : List Str).Nodup by decide +kernel)), vf_nil, (v_fn C_P_run_key (hr.mono (by decide)) (va_cons (v_var 0) va_nil))⟩))
    (vs_cons (vs_if (vt_cmp c_lt (v_lenset rfl hu m_len m_set (v_var 1)) (v_len m_len (va_cons (v_var 1) va_nil))) (vs_one (vs_raise (cls := cls) 3 rz ek_Twice em_Twice hr.hd vms)) vs_nil)
    (vs_one (vs_if (vt_cmp c_lt (v_lenset rfl hu m_len m_set (v_idx hu (v_var 0) v_int)) (v_len m_len (va_cons (v_idx hu (v_var 0) v_int) va_nil))) (vs_one (vs_raise (cls := cls) 3 rz ek_Twice em_Twice hr.hd vms)) vs_nil)))))
theorem sc_P_check_tale : FnScope N_P_check_tale ps_P_check_tale (defScope s_P_check_tale) := ⟨rfl, rfl, rfl, by decide +kernel, rfl, by decide +kernel, by decide +kernel⟩
theorem ok_P_check_tale {f : Addr} {fd : FuncData} (Fn : Fun K "check_tale" "check_tale" s_P_check_tale f fd) {cls : Addr → Addr} (C_P_check_mosts : CalleeX P w K mg base cls 3 "check_mosts" 2 φ_P_check_mosts) (C_P_check_places : CalleeX P w K mg base cls 2 "check_places" 2 φ_P_check_places) (C_P_check_turns : CalleeX P w K mg base cls 1 "check_turns" 1 φ_P_check_turns) (C_P_check_unlike : CalleeX P w K mg base cls 2 "check_unlike" 1 φ_P_check_unlike) : FnOk P w K mg base (CXe P w) 4 f fd ps_P_check_tale (spX K cls φ_P_check_tale 2) :=
  fn_okX (cls := cls) (N := N_P_check_tale) (ps := ps_P_check_tale) (k := 3) (g := g_P_check_tale) Fn sc_P_check_tale (fun cdv A outer s H E F0 hr rz => (vs_cons (vs_expr (v_fnX (cls := cls) rz C_P_check_places (hr.mono (by decide)) (va_cons (v_var 0) (va_cons (v_var 1) va_nil))))
    (vs_cons (vs_expr (v_fnX (cls := cls) rz C_P_check_turns (hr.mono (by decide)) (va_cons (v_var 1) va_nil)))
    (vs_cons (vs_expr (v_fnX (cls := cls) rz C_P_check_unlike (hr.mono (by decide)) (va_cons (v_var 1) va_nil)))
    (vs_one (vs_expr (v_fnX (cls := cls) rz C_P_check_mosts (hr.mono (by decide)) (va_cons (v_var 0) (va_cons (v_var 1) va_nil)))))))))
theorem sc_L_found : FnScope N_L_found ps_L_found (defScope s_L_found) := ⟨rfl, rfl, rfl, by decide +kernel, rfl, by decide +kernel, by decide +kernel⟩
theorem ok_L_found {f : Addr} {fd : FuncData} (Fn : Fun K "_law_found" "_law_found" s_L_found f fd) {cls : Addr → Addr} {c1 c2 c3 c4 HE C0 : Addr} (m_isinstance : mg "isinstance" = none) (C_P_check_tale : CalleeX P w K mg base cls 4 "check_tale" 2 φ_P_check_tale) (RK : FndK K mg cls c1 c2 c3 c4 HE C0) : FnOk P w K mg base CX0 5 f fd ps_L_found (spV0 K φ_L_found 2) := by
  refine Fn.ok (k := 4) sc_L_found (fun vs H Q E h => by obtain ⟨F, ds, _, r, hl, _⟩ := h; rw [← r.length]; exact hl) (fun cdv A outer s H vs Q E hr hsp => ?_)
  obtain ⟨F, ds, sub, r, hl, m⟩ := hsp
  have hu := room_u hr
  match ds, hl with
  | [d1, d2], _ =>
    rw [Reps] at r
    obtain ⟨v1, rest, rfl, r1, r⟩ := r
    rw [Reps] at r
    obtain ⟨v2, rest, rfl, r2, r⟩ := r
    rw [Reps] at r
    subst r
    refine ⟨_, pss_cons (ps_set (i := 2) sc_L_found.nd rfl (.inl rfl) pe_non) (pss_cons (ps_try (i := 3) (j := 2) (F0 := F) (H0 := H) rfl rfl C_P_check_tale (hr.mono (by decide)) (fun E Ψ => va_cons (v_var 0) (va_cons (v_var 1) va_nil)) sc_L_found.nd rfl rfl rfl rfl rfl RK.z5 RK.z6)
      (pss_cons (ps_if (pt_cmp (pc_isN (pv 2))) (pss_one (ps_ret pe_int)) pss_nil)
      (pss_cons (ps_set (i := 4) sc_L_found.nd rfl (.inl rfl) (pe_lst (pa_cons (pe_callB call_isX rfl m_isinstance rfl (pa_cons (pv 2) (pa_cons (pe_glob (v := .ref c1) rfl RK.z1 rfl) pa_nil))) (pa_cons (pe_callB call_isX rfl m_isinstance rfl (pa_cons (pv 2) (pa_cons (pe_glob (v := .ref c2) rfl RK.z2 rfl) pa_nil))) pa_nil))))
      (pss_cons (ps_set (i := 4) sc_L_found.nd rfl (.inl rfl) (pe_op op_cat (pv 4) (pe_lst (pa_cons (pe_callB call_isX rfl m_isinstance rfl (pa_cons (pv 2) (pa_cons (pe_glob (v := .ref c3) rfl RK.z3 rfl) pa_nil))) (pa_cons (pe_callB call_isX rfl m_isinstance rfl (pa_cons (pv 2) (pa_cons (pe_glob (v := .ref c4) rfl RK.z4 rfl) pa_nil))) pa_nil)))))
      (pss_cons (ps_if (PW.pt (pw_or (pt_cmp (pc_neI (pe_bm PySem.F.plainAttrs_list PySem.F.slot_list_count PySem.F.type_list_count (mt_cnt hu) (pv 4) (pa_cons pe_bl pa_nil)) pe_int)) (pw_or (pt_val (pe_callB call_isX rfl m_isinstance rfl (pa_cons (pv 2) (pa_cons (pe_glob (v := .ref C0) rfl RK.z7 rfl) pa_nil)))) (pw_or1 (pt_not (pt_val (pe_callB call_isX rfl m_isinstance rfl (pa_cons (pv 2) (pa_cons (pe_bltn (v := .ty "ValueError") rfl RK.z8 rfl rfl) pa_nil))))))))) (pss_one (ps_ret (pe_un un_neg pe_int))) pss_nil)
      (pss_one (ps_ret (pe_add pe_int (pe_bm PySem.F.plainAttrs_list PySem.F.slot_list_index PySem.F.type_list_index (mt_idx hu) (pv 4) (pa_cons pe_bl pa_nil))))))))) ), ?_⟩
    exact found_read RK sub r1 r2 m
theorem sc_L_mix : FnScope N_L_mix ps_L_mix (defScope s_L_mix) := ⟨rfl, rfl, rfl, by decide +kernel, rfl, by decide +kernel, by decide +kernel⟩
theorem ok_L_mix {f : Addr} {fd : FuncData} (Fn : Fun K "_law_mix" "_law_mix" s_L_mix f fd) (m_range : mg "range" = none) : FnOk P w K mg base CX0 1 f fd ps_L_mix (spV0 K φ_L_mix 2) :=
  fn_ok (N := N_L_mix) (ps := ps_L_mix) (k := 0) (g := g_L_mix) Fn sc_L_mix (fun cdv A outer s H E F0 hr => (vs_cons (vs_if (vt_cmp c_ge (v_var 0) (v_pow v_int v_int)) (vs_cons (vs_set 0 sc_L_mix.nd (v_sub (v_fdiv (v_var 0) (v_pow v_int v_int)) v_int))
    (vs_cons (vs_for .never rfl (vi_rngW m_range (va_cons (v_mod (v_var 1) v_int) va_nil)) (vg_name 2 sc_L_mix.nd)
    (vs_one (vs_set 0 sc_L_mix.nd (v_fdiv (v_var 0) v_int))))
    (vs_one (vs_ret (v_mod (v_var 0) v_int))))) vs_nil)
    (vs_cons (vs_set 3 sc_L_mix.nd (v_mod (v_mul (v_add (v_add (v_mod (v_var 0) v_int) (v_mul (v_mul (v_var 1) (v_var 1)) v_int)) (v_var 1)) v_int) v_int))
    (vs_cons (vs_set 3 sc_L_mix.nd (v_mod (v_mul (v_var 3) (v_var 3)) v_int))
    (vs_one (vs_ret (v_fdiv (v_mod (v_mul (v_var 3) (v_add (v_var 3) v_int)) v_int) v_int)))))))
theorem sc_L_net : FnScope N_L_net ps_L_net (defScope s_L_net) := ⟨rfl, rfl, rfl, by decide +kernel, rfl, by decide +kernel, by decide +kernel⟩
theorem ok_L_net {f : Addr} {fd : FuncData} (Fn : Fun K "_law_net" "_law_net" s_L_net f fd) (m_abs : mg "abs" = none) (m_range : mg "range" = none) (C_L_cell_at : Callee P w K mg base 1 "_law_cell_at" 2 φ_L_cell_at) (C_L_mix : Callee P w K mg base 1 "_law_mix" 2 φ_L_mix) : FnOk P w K mg base CX0 2 f fd ps_L_net (spV0 K φ_L_net 1) :=
  fn_ok (N := N_L_net) (ps := ps_L_net) (k := 1) (g := g_L_net) Fn sc_L_net (fun cdv A outer s H E F0 hr => let hu := room_u hr; (vs_cons (vs_set 1 sc_L_net.nd (v_fn C_L_mix (hr.mono (by decide)) (va_cons (v_fn C_L_cell_at (hr.mono (by decide)) (va_cons (v_var 0) (va_cons v_int va_nil))) (va_cons v_int va_nil))))
    (vs_cons (vs_set 2 sc_L_net.nd (v_add v_int (v_mod (v_fn C_L_cell_at (hr.mono (by decide)) (va_cons (v_var 0) (va_cons v_int va_nil))) v_int)))
    (vs_cons (vs_if (vt_cmp (c_eq hu) (v_mod (v_fdiv (v_var 1) v_int) v_int) v_int) (vs_one (vs_set 2 sc_L_net.nd (v_add v_int (v_mod (v_fdiv (v_var 1) v_int) v_int)))) vs_nil)
    (vs_cons (vs_if (vt_cmp (c_eq hu) (v_mod (v_fdiv (v_var 1) v_int) v_int) v_int) (vs_one (vs_set 2 sc_L_net.nd v_int)) vs_nil)
    (vs_cons (vs_set 3 sc_L_net.nd (v_lst va_nil))
    (vs_cons (vs_for .never rfl (vi_rngW m_range (va_cons (v_var 2) va_nil)) (vg_name 4 sc_L_net.nd)
    (vs_one (vs_for .never rfl (vi_rngW m_range (va_cons (v_var 2) va_nil)) (vg_name 5 sc_L_net.nd)
    (vs_cons (vs_set 6 sc_L_net.nd (v_fn C_L_mix (hr.mono (by decide)) (va_cons (v_fn C_L_cell_at (hr.mono (by decide)) (va_cons (v_var 0) (va_cons v_int va_nil))) (va_cons (v_add (v_mul v_int (v_var 4)) (v_var 5)) va_nil))))
    (vs_cons (vs_set 7 sc_L_net.nd (v_and (v_cmp c_gt (v_abs m_abs (va_cons (v_sub (v_var 5) (v_var 4)) va_nil)) v_int) (v_one (v_or (v_cmp (c_eq hu) (v_mod (v_var 1) v_int) v_int) (v_one (v_cmp c_gt (v_var 2) v_int))))))
    (vs_cons (vs_if (vt_w (vw_or (vt_cmp (c_eq hu) (v_var 4) (v_var 5)) (vw_or (vt_val (v_var 7)) (vw_or1 (vt_cmp (c_eq hu) (v_mod (v_var 6) v_int) v_int))))) (vs_one vs_continue) vs_nil)
    (vs_cons (vs_set 8 sc_L_net.nd (v_idx hu (v_lst (va_cons v_non (va_cons v_int (va_cons v_int (va_cons (v_add v_int (v_mod (v_fdiv (v_var 6) v_int) v_int)) (va_cons (v_add (v_pow v_int v_int) (v_var 6)) va_nil)))))) (v_sub (v_mod (v_var 6) v_int) v_int)))
    (vs_one (vs_app 3 (v_tup (va_cons (v_var 4) (va_cons (v_var 5) (va_cons (v_var 8) va_nil)))))))))))))
    (vs_cons (vs_if (vt_cmp (c_eq hu) (v_mod (v_fdiv (v_var 1) v_int) v_int) v_int) (vs_one (vs_set 3 sc_L_net.nd (v_step (v_var 3) (v_neg v_int)))) vs_nil)
    (vs_frz 3 (vs_frz 2 (vs_one (vs_ret (v_tup (va_cons (v_var 2) (va_cons (v_var 3) va_nil)))))))))))))))
theorem sc_L_put : FnScope N_L_put ps_L_put (defScope s_L_put) := ⟨rfl, rfl, rfl, by decide +kernel, rfl, by decide +kernel, by decide +kernel⟩
theorem ok_L_put {f : Addr} {fd : FuncData} (Fn : Fun K "_law_put" "_law_put" s_L_put f fd) (m_len : mg "len" = none) : FnOk P w K mg base CX0 1 f fd ps_L_put (spV0 K φ_L_put 3) :=
  fn_ok (N := N_L_put) (ps := ps_L_put) (k := 0) (g := g_L_put) Fn sc_L_put (fun cdv A outer s H E F0 hr => (vs_cons (vs_set 2 sc_L_put.nd (v_mod (v_var 2) (v_add (v_len m_len (va_cons (v_var 0) va_nil)) v_int)))
    (vs_one (vs_ret (v_add (v_add (v_sl (v_var 0) vo_none (vo_some (v_var 2))) (v_lst (va_cons (v_var 1) va_nil))) (v_sl (v_var 0) (vo_some (v_var 2)) vo_none))))))
theorem sc_L_wrong_run : FnScope N_L_wrong_run ps_L_wrong_run (defScope s_L_wrong_run) := ⟨rfl, rfl, rfl, by decide +kernel, rfl, by decide +kernel, by decide +kernel⟩
theorem ok_L_wrong_run {f : Addr} {fd : FuncData} (Fn : Fun K "_law_wrong_run" "_law_wrong_run" s_L_wrong_run f fd) (m_len : mg "len" = none) (m_max : mg "max" = none) : FnOk P w K mg base CX0 1 f fd ps_L_wrong_run (spV0 K φ_L_wrong_run 3) :=
  fn_ok (N := N_L_wrong_run) (ps := ps_L_wrong_run) (k := 0) (g := g_L_wrong_run) Fn sc_L_wrong_run (fun cdv A outer s H E F0 hr => let hu := room_u hr; (vs_cons (vs_set 3 sc_L_wrong_run.nd (v_idx hu (v_var 2) v_int))
    (vs_cons (vs_set 4 sc_L_wrong_run.nd (v_idx hu (v_lst (va_cons (v_add (v_var 3) v_int) (va_cons (v_add (v_pow v_int v_int) (v_var 0)) va_nil))) (v_mod (v_fdiv (v_var 0) v_int) v_int)))
    (vs_cons (vs_set 5 sc_L_wrong_run.nd (v_mod (v_fdiv (v_var 0) v_int) (v_max2 rfl m_max (va_cons v_int (va_cons (v_add (v_var 3) v_int) va_nil)))))
    (vs_cons (vs_set 6 sc_L_wrong_run.nd (v_mod (v_var 0) (v_idx hu (v_var 1) v_int)))
    (vs_cons (vs_set 7 sc_L_wrong_run.nd (v_tup (va_cons (v_var 6) (va_cons (v_var 6) (va_cons v_int va_nil)))))
    (vs_cons (vs_if (vt_cmp (c_ne hu) (v_idx hu (v_var 1) v_int) (v_lst va_nil)) (vs_one (vs_set 7 sc_L_wrong_run.nd (v_idx hu (v_idx hu (v_var 1) v_int) (v_mod (v_fdiv (v_var 0) v_int) (v_len m_len (va_cons (v_idx hu (v_var 1) v_int) va_nil)))))) vs_nil)
    (vs_cons (vs_set 8 sc_L_wrong_run.nd (v_sub (v_neg v_int) (v_mod (v_fdiv (v_var 0) v_int) (v_idx hu (v_var 1) v_int))))
    (vs_cons (vs_set 9 sc_L_wrong_run.nd (v_lst (va_cons (v_tup (va_cons (v_var 6) (va_cons (v_idx hu (v_var 1) v_int) (va_cons (v_var 5) (va_cons (v_add (v_var 5) v_int) va_nil))))) (va_cons (v_tup (va_cons (v_var 8) (va_cons (v_var 6) (va_cons (v_var 5) (va_cons (v_add (v_var 5) v_int) va_nil))))) (va_cons (v_tup (va_cons (v_var 6) (va_cons (v_var 6) (va_cons (v_var 5) (va_cons (v_add (v_var 5) v_int) va_nil))))) va_nil)))))
    (vs_cons (vs_set 9 sc_L_wrong_run.nd (v_add (v_var 9) (v_lst (va_cons (v_tup (va_cons (v_var 6) (va_cons (v_var 8) (va_cons (v_var 5) (va_cons (v_add (v_var 5) v_int) va_nil))))) (va_cons (v_tup (va_cons (v_add (v_pow v_int v_int) (v_var 6)) (va_cons (v_var 6) (va_cons (v_var 5) (va_cons (v_add (v_var 5) v_int) va_nil))))) va_nil)))))
    (vs_cons (vs_set 9 sc_L_wrong_run.nd (v_add (v_var 9) (v_lst (va_cons (v_tup (va_cons (v_var 6) (va_cons (v_add (v_pow v_int v_int) (v_var 0)) (va_cons (v_var 5) (va_cons (v_add (v_var 5) v_int) va_nil))))) va_nil))))
    (vs_cons (vs_set 9 sc_L_wrong_run.nd (v_add (v_var 9) (v_lst (va_cons (v_tup (va_cons (v_idx hu (v_var 7) v_int) (va_cons (v_idx hu (v_var 7) v_int) (va_cons (v_sub (v_neg v_int) (v_mod (v_fdiv (v_var 0) v_int) v_int)) (va_cons (v_var 5) va_nil))))) (va_cons (v_tup (va_cons (v_idx hu (v_var 7) v_int) (va_cons (v_idx hu (v_var 7) v_int) (va_cons (v_var 5) (va_cons (v_var 5) va_nil))))) va_nil)))))
    (vs_cons (vs_set 9 sc_L_wrong_run.nd (v_add (v_var 9) (v_lst (va_cons (v_tup (va_cons (v_idx hu (v_var 7) v_int) (va_cons (v_idx hu (v_var 7) v_int) (va_cons (v_var 5) (va_cons (v_var 4) va_nil))))) (va_cons (v_tup (va_cons (v_idx hu (v_var 7) v_int) (va_cons (v_idx hu (v_var 7) v_int) (va_cons (v_var 5) (va_cons (v_sub (v_sub (v_var 5) v_int) (v_mod (v_fdiv (v_var 0) v_int) v_int)) va_nil))))) va_nil)))))
    (vs_cons (vs_set 9 sc_L_wrong_run.nd (v_add (v_var 9) (v_lst (va_cons (v_tup (va_cons (v_idx hu (v_var 7) v_int) (va_cons (v_idx hu (v_var 7) v_int) (va_cons (v_var 5) (va_cons (v_add (v_var 5) v_int) va_nil))))) (va_cons (v_tup (va_cons (v_var 6) (va_cons (v_mod (v_add (v_var 6) v_int) (v_idx hu (v_var 1) v_int)) (va_cons (v_var 5) (va_cons (v_add (v_var 5) v_int) va_nil))))) va_nil)))))
    (vs_one (vs_ret (v_idx hu (v_var 9) (v_mod (v_fdiv (v_var 0) v_int) v_int))))))))))))))))))
theorem sc_L_wrong_sign : FnScope N_L_wrong_sign ps_L_wrong_sign (defScope s_L_wrong_sign) := ⟨rfl, rfl, rfl, by decide +kernel, rfl, by decide +kernel, by decide +kernel⟩
theorem ok_L_wrong_sign {f : Addr} {fd : FuncData} (Fn : Fun K "_law_wrong_sign" "_law_wrong_sign" s_L_wrong_sign f fd) (m_max : mg "max" = none) : FnOk P w K mg base CX0 1 f fd ps_L_wrong_sign (spV0 K φ_L_wrong_sign 3) :=
  fn_ok (N := N_L_wrong_sign) (ps := ps_L_wrong_sign) (k := 0) (g := g_L_wrong_sign) Fn sc_L_wrong_sign (fun cdv A outer s H E F0 hr => let hu := room_u hr; (vs_cons (vs_set 3 sc_L_wrong_sign.nd (v_idx hu (v_lst (va_cons v_int (va_cons (v_add (v_pow v_int v_int) (v_var 0)) va_nil))) (v_mod (v_fdiv (v_var 0) v_int) v_int)))
    (vs_cons (vs_set 4 sc_L_wrong_sign.nd (v_mod (v_var 0) (v_idx hu (v_var 1) v_int)))
    (vs_cons (vs_set 5 sc_L_wrong_sign.nd (v_mod (v_fdiv (v_var 0) v_int) (v_max2 rfl m_max (va_cons v_int (va_cons (v_add (v_idx hu (v_var 2) v_int) v_int) va_nil)))))
    (vs_cons (vs_set 6 sc_L_wrong_sign.nd (v_lst (va_cons (v_tup (va_cons (v_add (v_sub (v_idx hu (v_var 1) v_int) v_int) (v_var 3)) (va_cons (v_var 5) (va_cons v_str va_nil)))) (va_cons (v_tup (va_cons (v_neg (v_var 3)) (va_cons (v_var 5) (va_cons v_str va_nil)))) (va_cons (v_tup (va_cons (v_var 4) (va_cons (v_neg (v_var 3)) (va_cons v_str va_nil)))) (va_cons (v_tup (va_cons (v_var 4) (va_cons (v_add (v_idx hu (v_var 2) v_int) (v_var 3)) (va_cons v_str va_nil)))) va_nil))))))
    (vs_one (vs_ret (v_idx hu (v_var 6) (v_mod (v_fdiv (v_var 0) v_int) v_int)))))))))
theorem sc_L_spoiled : FnScope N_L_spoiled ps_L_spoiled (defScope s_L_spoiled) := ⟨rfl, rfl, rfl, by decide +kernel, rfl, by decide +kernel, by decide +kernel⟩
theorem ok_L_spoiled {f : Addr} {fd : FuncData} (Fn : Fun K "_law_spoiled" "_law_spoiled" s_L_spoiled f fd) (m_len : mg "len" = none) (m_max : mg "max" = none) (C_L_put : Callee P w K mg base 1 "_law_put" 3 φ_L_put) (C_L_wrong_run : Callee P w K mg base 1 "_law_wrong_run" 3 φ_L_wrong_run) (C_L_wrong_sign : Callee P w K mg base 1 "_law_wrong_sign" 3 φ_L_wrong_sign) : FnOk P w K mg base CX0 2 f fd ps_L_spoiled (spV0 K φ_L_spoiled 3) :=
  fn_ok (N := N_L_spoiled) (ps := ps_L_spoiled) (k := 1) (g := g_L_spoiled) Fn sc_L_spoiled (fun cdv A outer s H E F0 hr => let hu := room_u hr; (vs_cons (vs_set 3 sc_L_spoiled.nd (v_mod (v_var 0) v_int))
    (vs_cons (vs_asg (v_var 2) (vg_tup rfl (vg_cons (vg_name 4 sc_L_spoiled.nd) (vg_cons (vg_name 5 sc_L_spoiled.nd) (vg_cons (vg_name 6 sc_L_spoiled.nd) vg_nil)))))
    (vs_cons (vs_set 0 sc_L_spoiled.nd (v_fdiv (v_var 0) v_int))
    (vs_cons (vs_if (vt_cmp c_lt (v_var 3) v_int) (vs_frz 5 (vs_one (vs_set 5 sc_L_spoiled.nd (v_fn C_L_put (hr.mono (by decide)) (va_cons (v_var 5) (va_cons (v_fn C_L_wrong_run (hr.mono (by decide)) (va_cons (v_var 0) (va_cons (v_var 1) (va_cons (v_var 2) va_nil)))) (va_cons (v_fdiv (v_var 0) v_int) va_nil))))))) vs_nil)
    (vs_cons (vs_if (vt_cmp (c_eq hu) (v_var 3) v_int) (vs_frz 6 (vs_one (vs_set 6 sc_L_spoiled.nd (v_fn C_L_put (hr.mono (by decide)) (va_cons (v_var 6) (va_cons (v_fn C_L_wrong_sign (hr.mono (by decide)) (va_cons (v_var 0) (va_cons (v_var 1) (va_cons (v_var 2) va_nil)))) (va_cons (v_fdiv (v_var 0) v_int) va_nil))))))) vs_nil)
    (vs_cons (vs_if (vt_w (vw_and (vt_cmp (c_eq hu) (v_var 3) v_int) (vw_and1 (vt_cmp (c_ne hu) (v_var 6) (v_lst va_nil))))) (vs_frz 6 (vs_one (vs_set 6 sc_L_spoiled.nd (v_fn C_L_put (hr.mono (by decide)) (va_cons (v_var 6) (va_cons (v_idx hu (v_var 6) (v_mod (v_var 0) (v_len m_len (va_cons (v_var 6) va_nil)))) (va_cons (v_fdiv (v_var 0) v_int) va_nil))))))) vs_nil)
    (vs_cons (vs_if (vt_w (vw_and (vt_cmp c_gt (v_var 3) v_int) (vw_and (vt_cmp c_lt (v_var 3) v_int) (vw_and1 (vt_cmp (c_ne hu) (v_var 5) (v_lst va_nil)))))) (vs_cons (vs_set 7 sc_L_spoiled.nd (v_mod (v_var 0) (v_len m_len (va_cons (v_var 5) va_nil))))
    (vs_cons (vs_asg (v_idx hu (v_var 5) (v_var 7)) (vg_tup rfl (vg_cons (vg_name 8 sc_L_spoiled.nd) (vg_cons (vg_name 9 sc_L_spoiled.nd) (vg_cons (vg_name 10 sc_L_spoiled.nd) (vg_cons (vg_name 11 sc_L_spoiled.nd) vg_nil))))))
    (vs_cons (vs_if (vt_cmp (c_eq hu) (v_var 3) v_int) (vs_frz 5 (vs_one (vs_set 5 sc_L_spoiled.nd (v_fn C_L_put (hr.mono (by decide)) (va_cons (v_var 5) (va_cons (v_tup (va_cons (v_var 8) (va_cons (v_var 9) (va_cons (v_var 10) (va_cons (v_idx hu (v_lst (va_cons (v_var 11) (va_cons (v_var 4) va_nil))) (v_mod (v_fdiv (v_var 0) v_int) v_int)) va_nil))))) (va_cons (v_fdiv (v_var 0) v_int) va_nil))))))) vs_nil)
    (vs_cons (vs_if (vt_cmp (c_eq hu) (v_var 3) v_int) (vs_one (vs_set 5 sc_L_spoiled.nd (v_add (v_add (v_sl (v_var 5) vo_none (vo_some (v_var 7))) (v_lst (va_cons (v_tup (va_cons (v_var 8) (va_cons (v_var 9) (va_cons (v_var 10) (va_cons (v_max2 rfl m_max (va_cons (v_var 11) (va_cons (v_sub (v_var 4) (v_mod (v_fdiv (v_var 0) v_int) v_int)) va_nil))) va_nil))))) va_nil))) (v_sl (v_var 5) (vo_some (v_add (v_var 7) v_int)) vo_none)))) vs_nil)
    (vs_one (vs_if (vt_cmp (c_eq hu) (v_var 3) v_int) (vs_one (vs_set 5 sc_L_spoiled.nd (v_add (v_sl (v_var 5) vo_none (vo_some (v_var 7))) (v_sl (v_var 5) (vo_some (v_add (v_var 7) v_int)) vo_none)))) vs_nil)))))) vs_nil)
    (vs_cons (vs_if (vt_w (vw_and (vt_cmp (c_eq hu) (v_var 3) v_int) (vw_and1 (vt_cmp (c_eq hu) (v_mod (v_var 0) v_int) v_int)))) (vs_one (vs_set 4 sc_L_spoiled.nd (v_idx hu (v_lst (va_cons (v_neg v_int) (va_cons v_int (va_cons (v_pow v_int v_int) (va_cons (v_neg (v_pow v_int v_int)) va_nil))))) (v_mod (v_fdiv (v_var 0) v_int) v_int)))) vs_nil)
    (vs_frz 6 (vs_frz 5 (vs_one (vs_ret (v_tup (va_cons (v_var 4) (va_cons (v_var 5) (va_cons (v_var 6) va_nil)))))))))))))))))
theorem sc_L_signs : FnScope N_L_signs ps_L_signs (defScope s_L_signs) := ⟨rfl, rfl, rfl, by decide +kernel, rfl, by decide +kernel, by decide +kernel⟩
theorem ok_L_signs {f : Addr} {fd : FuncData} (Fn : Fun K "_law_signs" "_law_signs" s_L_signs f fd) (m_range : mg "range" = none) (C_L_cell_at : Callee P w K mg base 1 "_law_cell_at" 2 φ_L_cell_at) (C_L_mix : Callee P w K mg base 1 "_law_mix" 2 φ_L_mix) : FnOk P w K mg base CX0 2 f fd ps_L_signs (spV0 K φ_L_signs 3) :=
  fn_ok (N := N_L_signs) (ps := ps_L_signs) (k := 1) (g := g_L_signs) Fn sc_L_signs (fun cdv A outer s H E F0 hr => let hu := room_u hr; (vs_cons (vs_set 3 sc_L_signs.nd (v_lst va_nil))
    (vs_cons (vs_set 4 sc_L_signs.nd (v_mod (v_fdiv (v_fn C_L_cell_at (hr.mono (by decide)) (va_cons (v_var 0) (va_cons v_int va_nil))) v_int) v_int))
    (vs_cons (vs_set 5 sc_L_signs.nd (v_lst (va_cons v_str (va_cons v_str (va_cons v_str (va_cons v_str va_nil))))))
    (vs_cons (vs_if (vt_cmp (c_eq hu) (v_mod (v_fdiv (v_fn C_L_cell_at (hr.mono (by decide)) (va_cons (v_var 0) (va_cons v_int va_nil))) v_int) v_int) v_int) (vs_one (vs_set 5 sc_L_signs.nd (v_lst (va_cons v_str (va_cons (v_add (v_add (v_mul v_str (v_var 4)) v_str) (v_mul v_str (v_sub v_int (v_var 4)))) (va_cons (v_add (v_add (v_mul v_str (v_var 4)) v_str) (v_mul v_str (v_sub v_int (v_var 4)))) (va_cons (v_mul v_str v_int) va_nil))))))) vs_nil)
    (vs_cons (vs_for .never rfl (vi_rngW m_range (va_cons (v_mod (v_fn C_L_mix (hr.mono (by decide)) (va_cons (v_fn C_L_cell_at (hr.mono (by decide)) (va_cons (v_var 0) (va_cons v_int va_nil))) (va_cons v_int va_nil))) v_int) va_nil)) (vg_name 6 sc_L_signs.nd)
    (vs_cons (vs_set 7 sc_L_signs.nd (v_fn C_L_mix (hr.mono (by decide)) (va_cons (v_fn C_L_cell_at (hr.mono (by decide)) (va_cons (v_var 0) (va_cons (v_add v_int (v_var 6)) va_nil))) (va_cons (v_add v_int (v_var 6)) va_nil))))
    (vs_cons (vs_set 8 sc_L_signs.nd (v_tup (va_cons (v_mod (v_var 7) (v_idx hu (v_var 1) v_int)) (va_cons (v_mod (v_fdiv (v_var 7) v_int) (v_add (v_var 2) v_int)) (va_cons (v_idx hu (v_var 5) (v_mod (v_fdiv (v_var 7) v_int) v_int)) va_nil)))))
    (vs_one (vs_if (vt_cmp (c_notin hu) (v_var 8) (v_var 3)) (vs_one (vs_app 3 (v_var 8))) vs_nil)))))
    (vs_one (vs_retv 3))))))))
theorem sc_L_tale : FnScope N_L_tale ps_L_tale (defScope s_L_tale) := ⟨rfl, rfl, rfl, by decide +kernel, rfl, by decide +kernel, by decide +kernel⟩
theorem ok_L_tale {f : Addr} {fd : FuncData} (Fn : Fun K "_law_tale" "_law_tale" s_L_tale f fd) (m_min : mg "min" = none) (m_range : mg "range" = none) (C_L_cell_at : Callee P w K mg base 1 "_law_cell_at" 2 φ_L_cell_at) (C_L_mix : Callee P w K mg base 1 "_law_mix" 2 φ_L_mix) (C_L_signs : Callee P w K mg base 2 "_law_signs" 3 φ_L_signs) : FnOk P w K mg base CX0 3 f fd ps_L_tale (spV0 K φ_L_tale 2) :=
  fn_ok (N := N_L_tale) (ps := ps_L_tale) (k := 2) (g := g_L_tale) Fn sc_L_tale (fun cdv A outer s H E F0 hr => let hu := room_u hr; (vs_cons (vs_set 2 sc_L_tale.nd (v_mod (v_fn C_L_cell_at (hr.mono (by decide)) (va_cons (v_var 0) (va_cons v_int va_nil))) v_int))
    (vs_cons (vs_if (vt_cmp (c_eq hu) (v_mod (v_fdiv (v_fn C_L_mix (hr.mono (by decide)) (va_cons (v_fn C_L_cell_at (hr.mono (by decide)) (va_cons (v_var 0) (va_cons v_int va_nil))) (va_cons v_int va_nil))) v_int) v_int) v_int) (vs_one (vs_set 2 sc_L_tale.nd (v_mod (v_fn C_L_cell_at (hr.mono (by decide)) (va_cons (v_var 0) (va_cons v_int va_nil))) v_int))) vs_nil)
    (vs_cons (vs_set 3 sc_L_tale.nd (v_lst va_nil))
    (vs_cons (vs_set 4 sc_L_tale.nd v_int)
    (vs_cons (vs_for .never rfl (vi_list (v_idx hu (v_var 1) v_int)) (vg_tup rfl (vg_cons (vg_name 5 sc_L_tale.nd) (vg_cons (vg_name 6 sc_L_tale.nd) (vg_cons (vg_name 7 sc_L_tale.nd) vg_nil))))
    (vs_one (vs_for .never rfl (vi_rngW m_range (va_cons (v_var 2) va_nil)) (vg_name 8 sc_L_tale.nd)
    (vs_cons (vs_set 4 sc_L_tale.nd (v_add (v_var 4) v_int))
    (vs_cons (vs_set 9 sc_L_tale.nd (v_fn C_L_mix (hr.mono (by decide)) (va_cons (v_fn C_L_cell_at (hr.mono (by decide)) (va_cons (v_var 0) (va_cons (v_add v_int (v_mod (v_var 4) v_int)) va_nil))) (va_cons (v_var 4) va_nil))))
    (vs_cons (vs_set 10 sc_L_tale.nd (v_add (v_add (v_var 8) v_int) (v_mod (v_fdiv (v_var 9) v_int) v_int)))
    (vs_cons (vs_if (vt_w (vw_and (vt_cmp c_isN (v_var 7) v_non) (vw_and1 (vt_cmp (c_eq hu) (v_mod (v_var 9) v_int) v_int)))) (vs_one vs_continue) vs_nil)
    (vs_cons (vs_if (vt_cmp c_notN (v_var 7) v_non) (vs_one (vs_set 10 sc_L_tale.nd (v_add (v_add (v_var 8) v_int) (v_mod (v_fdiv (v_var 9) v_int) (v_min2 rfl m_min (va_cons (v_var 7) (va_cons v_int va_nil))))))) vs_nil)
    (vs_cons (vs_if (vt_w (vw_and (vt_cmp c_notN (v_var 7) v_non) (vw_and1 (vt_cmp (c_eq hu) (v_mod (v_var 9) v_int) v_int)))) (vs_one (vs_set 10 sc_L_tale.nd (v_add (v_var 8) (v_var 7)))) vs_nil)
    (vs_one (vs_if (vt_cmp c_le (v_var 10) (v_var 2)) (vs_frz 10 (vs_one (vs_app 3 (v_tup (va_cons (v_var 5) (va_cons (v_var 6) (va_cons (v_var 8) (va_cons (v_var 10) va_nil)))))))) vs_nil)))))))))))
    (vs_cons (vs_if (vt_cmp (c_eq hu) (v_mod (v_var 2) v_int) v_int) (vs_one (vs_set 3 sc_L_tale.nd (v_step (v_var 3) (v_neg v_int)))) vs_nil)
    (vs_frz 3 (vs_one (vs_ret (v_tup (va_cons (v_var 2) (va_cons (v_var 3) (va_cons (v_fn C_L_signs (hr.mono (by decide)) (va_cons (v_var 0) (va_cons (v_var 1) (va_cons (v_var 2) va_nil)))) va_nil))))))))))))))
theorem sc_law : FnScope N_law ps_law (defScope s_law) := ⟨rfl, rfl, rfl, by decide +kernel, rfl, by decide +kernel, by decide +kernel⟩
theorem ok_law {f : Addr} {fd : FuncData} (Fn : Fun K "law" "law" s_law f fd) (m_list : mg "list" = none) (m_range : mg "range" = none) (C_L_cell_at : Callee P w K mg base 1 "_law_cell_at" 2 φ_L_cell_at) (C_L_due : Callee P w K mg base 2 "_law_due" 2 φ_L_due) (C_L_found : Callee P w K mg base 5 "_law_found" 2 φ_L_found) (C_L_mix : Callee P w K mg base 1 "_law_mix" 2 φ_L_mix) (C_L_net : Callee P w K mg base 2 "_law_net" 1 φ_L_net) (C_L_spoiled : Callee P w K mg base 2 "_law_spoiled" 3 φ_L_spoiled) (C_L_tale : Callee P w K mg base 3 "_law_tale" 2 φ_L_tale) : FnOk P w K mg base CX0 6 f fd ps_law (spV0 K φ_law 1) :=
  fn_ok (N := N_law) (ps := ps_law) (k := 5) (g := g_law) Fn sc_law (fun cdv A outer s H E F0 hr => let hu := room_u hr; (vs_cons (vs_set 1 sc_law.nd (v_fn C_L_net (hr.mono (by decide)) (va_cons (v_var 0) va_nil)))
    (vs_frz 1 (vs_cons (vs_set 2 sc_law.nd (v_fn C_L_tale (hr.mono (by decide)) (va_cons (v_var 0) (va_cons (v_var 1) va_nil))))
    (vs_cons (vs_for .never rfl (vi_rngW m_range (va_cons (v_mod (v_fn C_L_mix (hr.mono (by decide)) (va_cons (v_fn C_L_cell_at (hr.mono (by decide)) (va_cons (v_var 0) (va_cons v_int va_nil))) (va_cons v_int va_nil))) v_int) va_nil)) (vg_name 3 sc_law.nd)
    (vs_frz 2 (vs_frz 1 (vs_one (vs_set 2 sc_law.nd (v_fn C_L_spoiled (hr.mono (by decide)) (va_cons (v_fn C_L_mix (hr.mono (by decide)) (va_cons (v_fn C_L_cell_at (hr.mono (by decide)) (va_cons (v_var 0) (va_cons (v_add v_int (v_var 3)) va_nil))) (va_cons (v_add v_int (v_var 3)) va_nil))) (va_cons (v_var 1) (va_cons (v_var 2) va_nil)))))))))
    (vs_cons (vs_set 4 sc_law.nd (v_tup (va_cons (v_tup (va_cons (v_idx hu (v_var 1) v_int) (va_cons (v_list m_list (va_cons (v_idx hu (v_var 1) v_int) va_nil)) va_nil))) (va_cons (v_tup (va_cons (v_idx hu (v_var 2) v_int) (va_cons (v_list m_list (va_cons (v_idx hu (v_var 2) v_int) va_nil)) (va_cons (v_list m_list (va_cons (v_idx hu (v_var 2) v_int) va_nil)) va_nil)))) va_nil))))
    (vs_frz 2 (vs_frz 1 (vs_cons (vs_set 5 sc_law.nd (v_fn C_L_due (hr.mono (by decide)) (va_cons (v_var 1) (va_cons (v_var 2) va_nil))))
    (vs_frz 2 (vs_frz 1 (vs_cons (vs_if (vt_w (vw_or (vt_cmp (c_ne hu) (v_fn C_L_found (hr.mono (by decide)) (va_cons (v_idx hu (v_var 4) v_int) (va_cons (v_idx hu (v_var 4) v_int) va_nil))) (v_var 5)) (vw_or1 (vt_cmp (c_ne hu) (v_var 4) (v_tup (va_cons (v_var 1) (va_cons (v_var 2) va_nil))))))) (vs_one (vs_ret v_bl)) vs_nil)
    (vs_one (vs_ret (v_cmp (c_eq hu) (v_fn C_L_found (hr.mono (by decide)) (va_cons (v_idx hu (v_var 4) v_int) (va_cons (v_idx hu (v_var 4) v_int) va_nil))) (v_var 5))))))))))))))))
end
noncomputable def cellF (ns : List Int) (i : Nat) : Int := (ns[i]?).getD 0
theorem cell_ok {ns : List Int} {i : Nat} : φ_L_cell_at [.scr (ns.map D.int), .int i] = .ok .fz (.int (cellF ns i)) := by
  unfold cellF
  cases q : ns[i]? with
  | some x =>
    have hi : i < ns.length := (List.getElem?_eq_some_iff.mp q).1
    have := atI_of (xs := ns.map D.int) (i := i) (d := .int x) (by simp [q])
    simp [φ_L_cell_at, runF_eq, ev0, g_L_cell_at, hi, this]
  | none =>
    have hi : ¬ ((i : Int) < ns.length) := by have := List.getElem?_eq_none_iff.mp q; omega
    simp [φ_L_cell_at, runF_eq, ev0, g_L_cell_at, hi]
theorem cell_ok0 {ns : List Int} : φ_L_cell_at [.scr (ns.map D.int), .int 0] = .ok .fz (.int (cellF ns 0)) := cell_ok (i := 0)
theorem cell_ok1 {ns : List Int} : φ_L_cell_at [.scr (ns.map D.int), .int 1] = .ok .fz (.int (cellF ns 1)) := cell_ok (i := 1)
theorem cell_ok2 {ns : List Int} : φ_L_cell_at [.scr (ns.map D.int), .int 2] = .ok .fz (.int (cellF ns 2)) := cell_ok (i := 2)
theorem cell_okI {ns : List Int} {j : Int} {i : Nat} (h : j = i) : φ_L_cell_at [.scr (ns.map D.int), .int j] = .ok .fz (.int (cellF ns i)) := by rw [h]; exact cell_ok

noncomputable def mixF (c k : Int) : Int := match φ_L_mix [.int c, .int k] with
  | .ok _ (.int x) => x
  | _ => 0
theorem mix_ex (c k : Int) (h0 : 0 ≤ k) (h1 : k < 2 ^ 20) : ∃ x, φ_L_mix [.int c, .int k] = .ok .fz (.int x) ∧ 0 ≤ x ∧ x < 2 ^ 31 := by
  by_cases hc : 1000000000000 ≤ c
  · have hm : -(2 ^ 62) ≤ k % 61 ∧ k % 61 < 2 ^ 62 := by omega
    have key : ∃ x y, forE (bName 2) g_L_mix_b1 (rangeD 0 (k % 61).toNat) [some (.fz, .int (c / 1000000000000 - 1)), some (.fz, .int k), none, none] = .nx [some (.fz, .int x), some (.fz, .int k), y, none] := by
      refine forE_by (fun r => ∃ x y, r = .nx [some (.fz, .int x), some (.fz, .int k), y, none]) (fun _ ev => ∃ x y, ev = [some (.fz, .int x), some (.fz, .int k), y, none]) ?_ ?_ ⟨_, _, rfl⟩
      · rintro d ds _ ⟨x, y, rfl⟩
        refine ⟨_, rfl, ?_⟩
        simp [g_L_mix_b1]
      · rintro _ ⟨x, y, rfl⟩
        exact ⟨x, y, rfl⟩
    obtain ⟨x, y, e⟩ := key
    refine ⟨x % 2147483648, ?_, by omega, by omega⟩
    simp (disch := first | omega | rfl) [φ_L_mix, runF_eq, ev0, g_L_mix, hc, e]
  · have k2 : k * k < 2 ^ 40 := by
      have := Int.mul_le_mul (show k ≤ 2 ^ 20 - 1 by omega) (show k ≤ 2 ^ 20 - 1 by omega) h0 (by decide)
      omega
    have k0 : 0 ≤ k * k := Int.mul_nonneg h0 h0
    have e1 : mulD (.int k) (.int k) = some (.fz, .int (k * k)) := mulD_ok (by omega)
    have e2 : mulD (.int (k * k)) (.int 7919) = some (.fz, .int (k * k * 7919)) := mulD_ok (by omega)
    have e3 : mulD (.int (c % 1000003 + k * k * 7919 + k)) (.int 48271) = some (.fz, .int ((c % 1000003 + k * k * 7919 + k) * 48271)) := mulD_ok (by omega)
    generalize hn : (c % 1000003 + k * k * 7919 + k) * 48271 % 2147483629 = n
    have n0 : 0 ≤ n ∧ n < 2147483629 := by omega
    have e4 : mulD (.int n) (.int n) = some (.fz, .int (n * n)) := mulD_ok (by omega)
    generalize hp : n * n % 2147483587 = p
    have p0 : 0 ≤ p ∧ p < 2147483587 := by omega
    have e5 : mulD (.int p) (.int (p + 2)) = some (.fz, .int (p * (p + 2))) := mulD_ok (by omega)
    refine ⟨p * (p + 2) % 2147483579 / 7, ?_, by omega, by omega⟩
    simp [φ_L_mix, runF_eq, ev0, g_L_mix, g_L_mix_j1, hc, e1, e2, e3, hn, e4, hp, e5]
theorem mix_ok (c k : Int) (h0 : 0 ≤ k) (h1 : k < 2 ^ 20) : φ_L_mix [.int c, .int k] = .ok .fz (.int (mixF c k)) := by
  obtain ⟨x, e, _⟩ := mix_ex c k h0 h1
  unfold mixF; rw [e]
theorem mix_nn (c k : Int) (h0 : 0 ≤ k) (h1 : k < 2 ^ 20) : 0 ≤ mixF c k ∧ mixF c k < 2 ^ 31 := by
  obtain ⟨x, e, h⟩ := mix_ex c k h0 h1
  unfold mixF; rw [e]; exact h

noncomputable abbrev Path := Nat × Nat × Option Int
noncomputable def optD : Option Int → D
  | none => .non
  | some m => .int m
noncomputable def pathD (p : Path) : D := .tup [.int p.1, .int p.2.1, optD p.2.2]
noncomputable def pairD (p : Path) : D := .tup [.int p.1, .int p.2.1]
noncomputable def ends (p : Path) : Nat × Nat := (p.1, p.2.1)
structure NetOk (n : Nat) (ps : List Path) : Prop where
  n1 : 1 ≤ n
  n8 : n ≤ 8
  s : ∀ p ∈ ps, p.1 < n
  g : ∀ p ∈ ps, p.2.1 < n
  ne : ∀ p ∈ ps, p.1 ≠ p.2.1
  m : ∀ p ∈ ps, ∀ m, p.2.2 = some m → 1 ≤ m ∧ m ≤ 10 ^ 60
  nd : (ps.map ends).Nodup
theorem emod_nat (a : Int) {n : Nat} (h : 0 < n) : ∃ s : Nat, a % (n : Int) = s ∧ s < n := by
  have h1 := Int.emod_nonneg a (b := n) (by omega)
  have h2 := Int.emod_lt_of_pos a (b := n) (by omega)
  exact ⟨(a % n).toNat, by omega, by omega⟩
theorem pairs_pl (ps : List Path) : plL 60 (ps.map pairD) = true := plL_iff.2 fun d hd => by
  obtain ⟨p, _, rfl⟩ := List.mem_map.1 hd
  simp [pairD, pl, plL]
theorem NetOk.add {n : Nat} {ps : List Path} (h : NetOk n ps) {s g : Nat} {o : Option Int} (hs : s < n) (hg : g < n) (hne : s ≠ g) (hm : ∀ m, o = some m → 1 ≤ m ∧ m ≤ 10 ^ 60) (hn : (s, g) ∉ ps.map ends) : NetOk n (ps ++ [(s, g, o)]) := by
  have spl : ∀ {P : Path → Prop}, (∀ p ∈ ps, P p) → P (s, g, o) → ∀ p ∈ ps ++ [(s, g, o)], P p := fun h1 h2 p hp => by
    rcases List.mem_append.1 hp with hp | hp
    · exact h1 p hp
    · simp at hp; subst hp; exact h2
  refine ⟨h.n1, h.n8, spl h.s hs, spl h.g hg, spl h.ne hne, spl h.m hm, ?_⟩
  rw [List.map_append, List.nodup_append]
  refine ⟨h.nd, by simp, fun x hx y hy => ?_⟩
  simp [ends] at hy
  subst hy
  rintro rfl
  exact hn hx
theorem NetOk.reverse {n : Nat} {ps : List Path} (h : NetOk n ps) : NetOk n ps.reverse :=
  ⟨h.n1, h.n8, fun p hp => h.s p (by simpa using hp), fun p hp => h.g p (by simpa using hp), fun p hp => h.ne p (by simpa using hp), fun p hp => h.m p (by simpa using hp), by rw [List.map_reverse]; exact (List.reverse_perm _).nodup_iff.2 h.nd⟩

noncomputable def netD (n : Nat) (ps : List Path) : D := .tup [.int n, .lst (ps.map pathD)]
@[simp] theorem optD_n : optD none = .non := (rfl)
@[simp] theorem optD_s {m : Int} : optD (some m) = .int m := (rfl)
theorem pick5 (i a b : Int) (h0 : 0 ≤ i) (h1 : i < 5) (ha : 1 ≤ a ∧ a ≤ 10 ^ 60) (hb : 1 ≤ b ∧ b ≤ 10 ^ 60) : ∃ o : Option Int, (∀ m, o = some m → 1 ≤ m ∧ m ≤ 10 ^ 60) ∧ atI [.non, .int 1, .int 2, .int a, .int b] i = some (optD o) := by
  have : i = 0 ∨ i = 1 ∨ i = 2 ∨ i = 3 ∨ i = 4 := by (clear hb ha; omega)
  rcases this with rfl | rfl | rfl | rfl | rfl
  · exact ⟨none, by simp, by simp [optD]⟩
  · exact ⟨some 1, by rintro m ⟨⟩; decide, by simp [optD]⟩
  · exact ⟨some 2, by rintro m ⟨⟩; decide, by simp [optD]⟩
  · exact ⟨some a, by rintro m ⟨⟩; exact ha, by simp [optD]⟩
  · exact ⟨some b, by rintro m ⟨⟩; exact hb, by rw [show (4 : Int) = ((4 : Nat) : Int) from rfl]; exact atI_of rfl⟩
noncomputable abbrev evN (S : List D) (num : Int) (n : Nat) (ps : List Path) (l : Ev) : Ev := some (.fz, .scr S) :: some (.fz, .int num) :: some (.fz, .int n) :: some (.ow, .lst (ps.map pathD)) :: l
noncomputable def Below (s g : Nat) (ps : List Path) : Prop := ∀ p ∈ ps, p.1 < s ∨ (p.1 = s ∧ p.2.1 < g)
noncomputable def InvN1 (ns : List Int) (num : Int) (n s : Nat) (xs : List Nat) (ev : Ev) : Prop := ∃ ps x5 x6 x7 x8, ev = evN (ns.map D.int) num n ps [some (.fz, .int s), x5, x6, x7, x8] ∧ NetOk n ps ∧ ∃ g, xs = List.range' g (n - g) ∧ g ≤ n ∧ Below s g ps ∧ ps.length ≤ s * n + g
noncomputable def InvN2 (ns : List Int) (num : Int) (n : Nat) (xs : List Nat) (ev : Ev) : Prop := ∃ ps x4 x5 x6 x7 x8, ev = evN (ns.map D.int) num n ps [x4, x5, x6, x7, x8] ∧ NetOk n ps ∧ ∃ s, xs = List.range' s (n - s) ∧ s ≤ n ∧ Below s 0 ps ∧ ps.length ≤ s * n
theorem range_eq' (n : Nat) : List.range n = List.range' 0 (n - 0) := by rw [List.range_eq_range']; rfl
theorem range'_cons {s n x : Nat} {xs : List Nat} (h : x :: xs = List.range' s (n - s)) : x = s ∧ s < n ∧ xs = List.range' (s + 1) (n - (s + 1)) := by
  by_cases hs : s < n
  · rw [show n - s = (n - (s + 1)) + 1 by omega, List.range'_succ] at h
    cases h
    exact ⟨rfl, hs, rfl⟩
  · rw [show n - s = 0 by omega] at h; simp at h
theorem net_j1 {ns : List Int} {num dr : Int} {n s g : Nat} {xs : List Nat} {ps : List Path} {x7 x8 : Option (Kd × D)} {h : Ev → Fl} {Q : Fl → Prop} (ok : NetOk n ps) (hs : s < n) (hg : g < n) (hb : Below s g ps) (hl : ps.length ≤ s * n + g) (hx : xs = List.range' (g + 1) (n - (g + 1))) (hne : s ≠ g) (hd : 0 ≤ dr ∧ dr < 2 ^ 31) (h6 : dr % 6 ≠ 0) :
    Wp (g_L_net_j1 (evN (ns.map D.int) num n ps [some (.fz, .int s), some (.fz, .int g), some (.fz, .int dr), x7, x8])) (loopQ (InvN1 ns num n s xs) h Q) := by
  obtain ⟨o, ho, eo⟩ := pick5 (dr % 6 - 1) (1 + dr / 6 % 6) (10 ^ 50 + dr) (by (clear hd hne hl hg hs; omega)) (by (clear h6 hd hne hl hg hs; omega)) (by (clear h6 hd hne hl hg hs; omega)) (by (clear h6 hne hl hg hs; omega))
  simp at eo
  have n8 := ok.n8
  have hsn : s * n ≤ 7 * 8 := Nat.mul_le_mul (by (clear h6 hd hne hl hg; omega)) n8
  have hL : ps.length < LIM := by simp [LIM]; (clear h6 hd hne hs; omega)
  simp (disch := first | omega | rfl) [g_L_net_j1, eo, hL]
  have h1 : List.map pathD ps ++ [D.tup [.int s, .int g, optD o]] = (ps ++ [(s, g, o)]).map pathD := by simp [pathD]
  rw [h1]
  refine ⟨ps ++ [(s, g, o)], _, _, _, _, rfl, ok.add hs hg hne ho (fun z => ?_), g + 1, hx, by (clear hL hsn n8 h6 hd hne hl hs; omega), fun p hp => ?_, by simp; (clear hL hsn n8 h6 hd hne hg hs; omega)⟩
  · obtain ⟨p, hp, e⟩ := List.mem_map.1 z
    simp [ends] at e
    have := hb p hp
    (clear hL hsn n8 h6 hd hne hl hg hs; omega)
  · rcases List.mem_append.1 hp with hp | hp
    · have := hb p hp; (clear hL hsn n8 h6 hd hne hl hg hs; omega)
    · simp at hp; subst hp; simp
theorem net_b1 {ns : List Int} {num : Int} {n s g : Nat} {xs : List Nat} {ps : List Path} {x6 x7 x8 : Option (Kd × D)} {h : Ev → Fl} {Q : Fl → Prop} (ok : NetOk n ps) (hs : s < n) (hg : g < n) (hb : Below s g ps) (hl : ps.length ≤ s * n + g) (hx : xs = List.range' (g + 1) (n - (g + 1))) :
    Wp (g_L_net_b1 (evN (ns.map D.int) num n ps [some (.fz, .int s), some (.fz, .int g), x6, x7, x8])) (loopQ (InvN1 ns num n s xs) h Q) := by
  have hc := cell_ok1 (ns := ns)
  have n8 := ok.n8
  have hm := mix_ok (cellF ns 1) (10 * s + g) (by (clear n8 hl hg hs; omega)) (by (clear hl; omega))
  have hd := mix_nn (cellF ns 1) (10 * s + g) (by (clear n8 hl hg hs; omega)) (by (clear hl; omega))
  generalize mixF (cellF ns 1) (10 * s + g) = dr at *
  have skip : ∀ x6 x7 x8, InvN1 ns num n s xs (evN (ns.map D.int) num n ps [some (.fz, .int s), some (.fz, .int g), x6, x7, x8]) := fun x6 x7 x8 => ⟨ps, _, _, _, _, rfl, ok, g + 1, hx, by (clear hd n8 hl hs; omega), fun p hp => by have := hb p hp; (clear hd n8 hl hg hs; omega), by (clear hd n8 hg hs; omega)⟩
  simp (disch := first | omega | rfl) [g_L_net_b1, hc, hm]
  by_cases hne : s = g
  · subst hne
    refine wp_if ?_ ?_ <;> intro hq <;> simp (disch := first | omega | rfl) []
    · exact skip _ _ _
    · simp at hq
  · have hne' : ¬ ((s : Int) = g) := by (clear hd n8 hl hg hs; omega)
    refine wp_if ?_ ?_ <;> intro hq <;> simp (disch := first | omega | rfl) []
    · exact skip _ _ _
    · simp at hq
      exact net_j1 ok hs hg hb hl hx hne hd (by (clear hne' hne hd n8 hl hg hs; omega))
theorem net_ok (ns : List Int) : ∃ n ps, NetOk n ps ∧ ps.length ≤ 64 ∧ φ_L_net [.scr (ns.map D.int)] = .ok .fz (netD n ps) := by
  have hc := cell_ok0 (ns := ns)
  have hm := mix_ok (cellF ns 0) 1 (by decide) (by decide)
  have hnn := mix_nn (cellF ns 0) 1 (by decide) (by decide)
  refine run_el (φ_L_net [.scr (ns.map D.int)]) rfl ?_
  generalize mixF (cellF ns 0) 1 = num at *
  generalize cellF ns 0 = c0 at *
  have j4 : ∀ (n : Nat) (Q : Fl → Prop), 1 ≤ n → n ≤ 8 → Q = runQ (fun x => ∃ n ps, NetOk n ps ∧ ps.length ≤ 64 ∧ x = .ok .fz (netD n ps)) → Wp (g_L_net_j4 [some (.fz, .scr (ns.map D.int)), some (.fz, .int num), some (.fz, .int n), none, none, none, none, none, none]) Q := fun n Q n1 n8 hQ => by
    simp (disch := first | omega | rfl) [g_L_net_j4]
    rw [rangeD_eq, range_eq']
    refine wp_forM (InvN2 ns num n) ?_ ?_ ⟨[], none, none, none, none, none, rfl, ⟨n1, n8, by simp, by simp, by simp, by simp, by simp⟩, 0, rfl, by (clear n8 n1 hnn; omega), by simp [Below], by simp⟩
    · rintro s xs _ _ ⟨ps, x4, x5, x6, x7, x8, rfl, ok, s', hxs, hs', hb, hl⟩
      obtain ⟨rfl, hs, hx'⟩ := range'_cons hxs
      refine ⟨_, rfl, ?_⟩
      simp (disch := first | omega | rfl) [g_L_net_b2]
      rw [rangeD_eq, range_eq']
      refine wp_forM1 (InvN1 ns num n s) ?_ ?_ ⟨ps, _, _, _, _, rfl, ok, 0, rfl, by (clear hs hl hs' n8 n1 hnn; omega), hb, by (clear hs hs' n8 n1 hnn; omega)⟩
      · rintro g ys _ _ ⟨ps, x5, x6, x7, x8, rfl, ok, g', hys, hg', hb, hl⟩
        obtain ⟨rfl, hg, hy'⟩ := range'_cons hys
        refine ⟨_, rfl, ?_⟩
        simp only [Int.zero_add]
        exact net_b1 (x6 := x6) (x7 := x7) (x8 := x8) ok hs hg hb hl hy'
      · rintro _ ⟨ps, x5, x6, x7, x8, rfl, ok, g', hys, hg', hb, hl⟩
        have : g' = n := by
          have := congrArg List.length hys
          simp at this; (clear hl hs hs' n8 n1 hnn; omega)
        subst this
        refine ⟨ps, _, _, _, _, _, rfl, ok, s + 1, hx', by (clear hl hg' hs' n8 n1 hnn; omega), fun p hp => ?_, by rw [Nat.succ_mul]; (clear hg' hs hs' n8 n1 hnn; omega)⟩
        have h1 := hb p hp
        have h2 := ok.g p hp
        (clear h2 hl hg' hs hs' n8 n1 hnn; omega)
    · rintro _ ⟨ps, x4, x5, x6, x7, x8, rfl, ok, s', hxs, hs', hb, hl⟩
      have hlen : ps.length ≤ 64 := Nat.le_trans hl (by have := Nat.mul_le_mul (show s' ≤ 8 by (clear hl n1 hnn; omega)) n8; (clear hl hs' n8 n1 hnn; omega))
      simp (disch := first | omega | rfl) [g_L_net_j3]
      refine wp_if ?_ ?_ <;> intro hq <;> simp (disch := first | omega | rfl) [g_L_net_j2]
      · subst hQ
        simp (disch := first | omega | rfl) []
        refine ⟨n, ps.reverse, ok.reverse, by simpa using hlen, ?_⟩
        simp [netD]
      · subst hQ
        simp (disch := first | omega | rfl) []
        exact ⟨n, ps, ok, hlen, rfl⟩
  obtain ⟨a, ea, ha⟩ := emod_nat c0 (n := 4) (by decide)
  have ea : (1 : Int) + c0 % 4 = ((1 + a : Nat) : Int) := by rw [show c0 % 4 = (a : Int) from ea]; (clear ha ea hnn; omega)
  obtain ⟨b, eb, hb⟩ := emod_nat (num / 64) (n := 4) (by decide)
  have eb : (5 : Int) + num / 64 % 4 = ((5 + b : Nat) : Int) := by rw [show num / 64 % 4 = (b : Int) from eb]; (clear hb eb ea ha hnn; omega)
  simp (disch := first | omega | rfl) [ev0, g_L_net, hc, hm]
  rw [ea]
  refine wp_if ?_ ?_ <;> intro hq <;> simp (disch := first | omega | rfl) [g_L_net_j5]
  · rw [eb]
    refine wp_if ?_ ?_ <;> intro hq2 <;> simp (disch := first | omega | rfl) []
    · exact j4 2 _ (by (clear eb hb ea ha hnn; omega)) (by (clear eb hb ea ha hnn; omega)) rfl
    · exact j4 (5 + b) _ (by (clear eb hb ea ha hnn; omega)) (by (clear eb hb ea ha hnn; omega)) rfl
  · refine wp_if ?_ ?_ <;> intro hq2 <;> simp (disch := first | omega | rfl) []
    · exact j4 2 _ (by (clear eb hb ea ha hnn; omega)) (by (clear eb hb ea ha hnn; omega)) rfl
    · exact j4 (1 + a) _ (by (clear eb hb ea ha hnn; omega)) (by (clear eb hb ea ha hnn; omega)) rfl

noncomputable abbrev Run := Nat × Nat × Nat × Nat
noncomputable abbrev Sign := Nat × Nat × Str
noncomputable def runD (r : Run) : D := .tup [.int r.1, .int r.2.1, .int r.2.2.1, .int r.2.2.2]
noncomputable def signD (x : Sign) : D := .tup [.int x.1, .int x.2.1, .str x.2.2]
noncomputable def taleD (last : Nat) (rs : List Run) (ss : List Sign) : D := .tup [.int last, .lst (rs.map runD), .lst (ss.map signD)]
noncomputable def rkey (r : Run) : Nat × Nat × Nat := (r.1, r.2.1, r.2.2.1)
noncomputable def nmOk (x : Str) : Bool := PyData.strOk x && decide (x.length ≤ 12) && decide (x ≠ Str.ofString "more")
structure SignsOk (n last : Nat) (ss : List Sign) : Prop where
  h : ∀ x ∈ ss, x.1 < n
  t : ∀ x ∈ ss, x.2.1 ≤ last
  nm : ∀ x ∈ ss, nmOk x.2.2 = true
  nd : ss.Nodup
structure RunsOk (ps : List Path) (last : Nat) (rs : List Run) : Prop where
  path : ∀ r ∈ rs, ∃ o, (r.1, r.2.1, o) ∈ ps ∧ ∀ m, o = some m → (r.2.2.2 : Int) ≤ r.2.2.1 + m
  turn : ∀ r ∈ rs, r.2.2.1 < r.2.2.2 ∧ r.2.2.2 ≤ last
  nd : (rs.map rkey).Nodup
structure GoodT (n : Nat) (ps : List Path) (last : Nat) (rs : List Run) (ss : List Sign) : Prop where
  runs : RunsOk ps last rs
  due : ∀ s g m (l : Nat), (s, g, some m) ∈ ps → (l : Int) + m ≤ last → ∃ c, (s, g, l, c) ∈ rs
  signs : SignsOk n last ss
theorem signs_pl {n last : Nat} {ss : List Sign} (h : SignsOk n last ss) : plL 59 (ss.map signD) = true := plL_iff.2 fun d hd => by
  obtain ⟨x, hx, rfl⟩ := List.mem_map.1 hd
  have := h.nm x hx
  simp [nmOk] at this
  simp [signD, pl, plL, this.1.1]
theorem signD_inj {x y : Sign} : signD x = signD y ↔ x = y := by
  obtain ⟨a, b, c⟩ := x
  obtain ⟨a', b', c'⟩ := y
  simp [signD]
  constructor
  · rintro ⟨h1, h2, h3⟩; exact ⟨by (clear h2; omega), by (clear h1; omega), h3⟩
  · rintro ⟨h1, h2, h3⟩; exact ⟨by (clear h2; omega), by (clear h1; omega), h3⟩
theorem signD_mem {x : Sign} {ss : List Sign} : signD x ∈ ss.map signD ↔ x ∈ ss := by
  simp only [List.mem_map, signD_inj]
  exact ⟨fun ⟨a, h, e⟩ => e ▸ h, fun h => ⟨x, h, rfl⟩⟩
noncomputable def cA : Str := Str.ofString "a"
noncomputable def cB : Str := Str.ofString "b"
noncomputable def cC : Str := Str.ofString "c"
theorem nm_facts : ∀ a : Fin 12, (Txt.mul cA (a : Nat)).length ≤ 12 ∧ (Txt.mul cA (11 - (a : Nat) : Int)).length ≤ 12 ∧ (Txt.mul cA (a : Nat) ++ cB).length ≤ 13 ∧ (Txt.mul cA (a : Nat) ++ cC).length ≤ 13 ∧
    nmOk (Txt.mul cA (a : Nat) ++ cB ++ Txt.mul cA (11 - (a : Nat) : Int)) = true ∧ nmOk (Txt.mul cA (a : Nat) ++ cC ++ Txt.mul cA (11 - (a : Nat) : Int)) = true := by decide +kernel
theorem pickN (i : Int) (a b c d : Str) (h0 : 0 ≤ i) (h1 : i < 4) (ha : nmOk a = true) (hb : nmOk b = true) (hc : nmOk c = true) (hd : nmOk d = true) : ∃ x : Str, nmOk x = true ∧ atI [D.str a, D.str b, D.str c, D.str d] i = some (D.str x) := by
  have : i = 0 ∨ i = 1 ∨ i = 2 ∨ i = 3 := by omega
  rcases this with rfl | rfl | rfl | rfl
  · exact ⟨a, ha, by simp⟩
  · exact ⟨b, hb, by simp⟩
  · exact ⟨c, hc, by simp⟩
  · exact ⟨d, hd, by simp⟩
noncomputable def InvS (ns : List Int) (n last : Nat) (net : D) (a b c d : Str) (xs : List Nat) (ev : Ev) : Prop := ∃ ss x4 x6 x7 x8, ev = [some (.fz, .scr (ns.map D.int)), some (.fz, net), some (.fz, .int last), some (.ow, .lst (ss.map signD)), x4, some (.ow, .lst [.str a, .str b, .str c, .str d]), x6, x7, x8] ∧ SignsOk n last ss ∧ ss.length + xs.length ≤ 4
theorem signs_j1 {ns : List Int} {n last : Nat} {ps : List Path} {a b c d : Str} {x4 : Option (Kd × D)} (hn : 0 < n) (hl : last < 1000) (ha : nmOk a = true) (hb : nmOk b = true) (hc : nmOk c = true) (hd : nmOk d = true) :
    Wp (g_L_signs_j1 [some (.fz, .scr (ns.map D.int)), some (.fz, netD n ps), some (.fz, .int last), some (.ow, .lst []), x4, some (.ow, .lst [.str a, .str b, .str c, .str d]), none, none, none]) (runQ fun x => ∃ ss, SignsOk n last ss ∧ ss.length ≤ 4 ∧ x = .ok .ow (.lst (ss.map signD))) := by
  have hc2 := cell_ok2 (ns := ns)
  have hm := mix_ok (cellF ns 2) 2 (by decide) (by decide)
  have e0 : idxD (netD n ps) (.int 0) = some (.fz, .int n) := by simp [netD]
  simp (disch := first | omega | rfl) [g_L_signs_j1, hc2, hm]
  rw [rangeD_eq]
  refine wp_forM (InvS ns n last (netD n ps) a b c d) ?_ ?_ ⟨[], _, _, _, _, rfl, ⟨by simp, by simp, by simp, by simp⟩, by simp; (clear hl hn; omega)⟩
  · rintro k xs _ ⟨p2, hp2⟩ ⟨ss, x4, x6, x7, x8, rfl, so, hlen⟩
    have hk : k < 5 := by
      have : k ∈ List.range (mixF (cellF ns 2) 2 % 5).toNat := by rw [hp2]; simp
      simp at this; (clear hlen hl hn; omega)
    simp only [List.length_cons] at hlen
    refine ⟨_, rfl, ?_⟩
    simp only [Int.zero_add]
    have hck := cell_okI (ns := ns) (j := 3 + k) (i := 3 + k) (by simp)
    have hmk := mix_ok (cellF ns (3 + k)) (500 + k) (by (clear hk hlen hl hn; omega)) (by (clear hlen hl hn; omega))
    have hnk := mix_nn (cellF ns (3 + k)) (500 + k) (by (clear hk hlen hl hn; omega)) (by (clear hlen hl hn; omega))
    generalize mixF (cellF ns (3 + k)) (500 + k) = nu at *
    obtain ⟨h, eh, hh⟩ := emod_nat nu hn
    obtain ⟨t, et, ht⟩ := emod_nat (nu / 5) (n := last + 1) (by (clear hh eh hnk hk hlen hl hn; omega))
    have et : nu / 5 % ((last : Int) + 1) = t := by rw [← et]; simp
    obtain ⟨x, hx, ex⟩ := pickN (nu / 300 % 4) a b c d (by (clear et ht hh eh hnk hk hlen hl hn; omega)) (by (clear et ht hh eh hnk hk hlen hl hn; omega)) ha hb hc hd
    have hx2 : PyData.strOk x = true := by simp [nmOk] at hx; exact hx.1.1
    have hin : notInD (.tup [.int h, .int t, .str x]) (.lst (ss.map signD)) = some (.fz, .bl (decide (signD (h, t, x) ∉ ss.map signD))) := notInD_pl rfl (by simp [pl, plL, hx2]) (plL_ups (signs_pl so))
    have hL : ss.length < LIM := by simp [LIM]; (clear et ht hh eh hnk hk hl hn; omega)
    simp (disch := first | omega | rfl) [g_L_signs_b1, hck, hmk, e0, eh, et, ex, hin]
    refine wp_if1 ?_ ?_ <;> intro hq <;> simp (disch := first | omega | rfl) [hL]
    · have hq : (h, t, x) ∉ ss := by simpa [signD_mem] using hq
      have h1 : ss.map signD ++ [D.tup [.int h, .int t, .str x]] = (ss ++ [(h, t, x)]).map signD := by simp [signD]
      rw [h1]
      refine ⟨ss ++ [(h, t, x)], _, _, _, _, rfl, ⟨fun y hy => ?_, fun y hy => ?_, fun y hy => ?_, ?_⟩, by simp; (clear hL et ht hh eh hnk hk hl hn; omega)⟩
      · rcases List.mem_append.1 hy with hy | hy
        · exact so.h y hy
        · simp at hy; subst hy; exact hh
      · rcases List.mem_append.1 hy with hy | hy
        · exact so.t y hy
        · simp at hy; subst hy; show t ≤ last; (clear hL et hh eh hnk hk hlen hl hn; omega)
      · rcases List.mem_append.1 hy with hy | hy
        · exact so.nm y hy
        · simp at hy; subst hy; exact hx
      · rw [List.nodup_append]
        exact ⟨so.nd, by simp, fun y hy z hz => by simp at hz; subst hz; rintro rfl; exact hq hy⟩
    · exact ⟨ss, _, _, _, _, rfl, so, by (clear hL et ht hh eh hnk hk hl hn; omega)⟩
  · rintro _ ⟨ss, x4, x6, x7, x8, rfl, so, hlen⟩
    simp (disch := first | omega | rfl) []
    exact ⟨ss, so, by simpa using hlen, rfl⟩
theorem signs_ok (ns : List Int) {n last : Nat} {ps : List Path} (hn : 0 < n) (hl : last < 1000) : ∃ ss, SignsOk n last ss ∧ ss.length ≤ 4 ∧ φ_L_signs [.scr (ns.map D.int), netD n ps, .int last] = .ok .ow (.lst (ss.map signD)) := by
  refine run_el (φ_L_signs [.scr (ns.map D.int), netD n ps, .int last]) rfl ?_
  have hc2 := cell_ok2 (ns := ns)
  obtain ⟨a, ea, ha⟩ := emod_nat (cellF ns 2 / 25) (n := 12) (by decide)
  have ea : cellF ns 2 / 25 % 12 = (a : Int) := ea
  obtain ⟨f1, f2, f3, f4, f5, f6⟩ := nm_facts ⟨a, ha⟩
  dsimp only at f1 f2 f3 f4 f5 f6
  have lA : cA.length = 1 := by decide +kernel
  have lB : cB.length = 1 := by decide +kernel
  have lC : cC.length = 1 := by decide +kernel
  have sA : Str.ofString "a" = cA := rfl
  have sB : Str.ofString "b" = cB := rfl
  have sC : Str.ofString "c" = cC := rfl
  simp (disch := first | omega | rfl) [ev0, g_L_signs, hc2, ea, sA, sB, sC]
  refine wp_if ?_ ?_ <;> intro hq
  · have m1 : mulD (.str cA) (.int a) = some (.fz, .str (Txt.mul cA a)) := mulD_str (by (clear lC lB f4 f3 f2 f1 ea ha hl hn; omega))
    have m2 : mulD (.str cA) (.int (11 - a)) = some (.fz, .str (Txt.mul cA (11 - a))) := mulD_str (by (clear lC lB f4 f3 f2 f1 ea ha hl hn; omega))
    have m3 : mulD (.str cA) (.int 11) = some (.fz, .str (Txt.mul cA 11)) := mulD_str (by (clear lC lB f4 f3 f2 f1 ea ha hl hn; omega))
    simp (disch := first | omega | rfl) [m1, m2, m3, sA, sB, sC, hc2]
    exact signs_j1 hn hl (by decide +kernel) f5 f6 (by decide +kernel)
  · simp (disch := first | omega | rfl) []
    exact signs_j1 hn hl (by decide +kernel) (by decide +kernel) (by decide +kernel) (by decide +kernel)
noncomputable def KeysB (ps1 : List Path) (p : Path) (l : Nat) (rs : List Run) : Prop := ∀ r ∈ rs, (r.1, r.2.1) ∈ ps1.map ends ∨ ((r.1, r.2.1) = ends p ∧ r.2.2.1 < l)
noncomputable abbrev evT (S : List D) (net : D) (last : Nat) (rs : List Run) (k : Nat) (l : Ev) : Ev := some (.fz, .scr S) :: some (.fz, net) :: some (.fz, .int last) :: some (.ow, .lst (rs.map runD)) :: some (.fz, .int k) :: l
noncomputable def DueB (ps1 : List Path) (last : Nat) (rs : List Run) : Prop := ∀ s g m (l : Nat), (s, g, some m) ∈ ps1 → (l : Int) + m ≤ last → ∃ c, (s, g, l, c) ∈ rs
noncomputable def InvT1 (ns : List Int) (net : D) (ps : List Path) (last : Nat) (ps1 : List Path) (p : Path) (xs : List Nat) (ev : Ev) : Prop := ∃ rs k x8 x9 x10, ev = evT (ns.map D.int) net last rs k [some (.fz, .int p.1), some (.fz, .int p.2.1), some (.fz, optD p.2.2), x8, x9, x10] ∧ RunsOk ps last rs ∧ DueB ps1 last rs ∧
  ∃ l, xs = List.range' l (last - l) ∧ l ≤ last ∧ KeysB ps1 p l rs ∧ k = ps1.length * last + l ∧ rs.length ≤ k ∧ ∀ m (l' : Nat), p.2.2 = some m → l' < l → (l' : Int) + m ≤ last → ∃ c, (p.1, p.2.1, l', c) ∈ rs
noncomputable def InvT2 (ns : List Int) (net : D) (ps : List Path) (last : Nat) (xs : List Path) (ev : Ev) : Prop := ∃ rs k ps1 x5 x6 x7 x8 x9 x10, ev = evT (ns.map D.int) net last rs k [x5, x6, x7, x8, x9, x10] ∧ ps = ps1 ++ xs ∧ RunsOk ps last rs ∧ DueB ps1 last rs ∧ (∀ r ∈ rs, (r.1, r.2.1) ∈ ps1.map ends) ∧ k = ps1.length * last ∧ rs.length ≤ k
theorem tale_j1 {ns : List Int} {net : D} {ps ps1 : List Path} {p : Path} {last k l c : Nat} {rs : List Run} {xs : List Nat} {x9 : Option (Kd × D)} {h : Ev → Fl} {Q : Fl → Prop} (hp : p ∈ ps) (hnot : ends p ∉ ps1.map ends) (hl : l < last) (hk : k = ps1.length * last + l + 1) (hk2 : k ≤ 10000) (ro : RunsOk ps last rs) (du : DueB ps1 last rs) (kb : KeysB ps1 p l rs) (hx : xs = List.range' (l + 1) (last - (l + 1))) (hlen : rs.length < k)
    (hd : ∀ m (l' : Nat), p.2.2 = some m → l' < l → (l' : Int) + m ≤ last → ∃ c, (p.1, p.2.1, l', c) ∈ rs) (hlc : l < c) (hm : ∀ m, p.2.2 = some m → (c : Int) ≤ l + m) :
    Wp (g_L_tale_j1 (evT (ns.map D.int) net last rs k [some (.fz, .int p.1), some (.fz, .int p.2.1), some (.fz, optD p.2.2), some (.fz, .int l), x9, some (.fz, .int c)])) (loopQ (InvT1 ns net ps last ps1 p xs) h Q) := by
  have kb' : ∀ r ∈ rs, (r.1, r.2.1) ∈ ps1.map ends ∨ ((r.1, r.2.1) = ends p ∧ r.2.2.1 < l + 1) := fun r hr => by
    rcases kb r hr with z | z
    · exact .inl z
    · exact .inr ⟨z.1, by (clear hlc hlen hk2 hk hl; omega)⟩
  have hL : rs.length < LIM := by simp [LIM]; (clear hlc hk hl; omega)
  simp (disch := first | omega | rfl) [g_L_tale_j1]
  refine wp_if1 ?_ ?_ <;> intro hq <;> simp (disch := first | omega | rfl) [hL]
  · simp at hq
    have h1 : rs.map runD ++ [D.tup [.int p.1, .int p.2.1, .int l, .int c]] = (rs ++ [(p.1, p.2.1, l, c)]).map runD := by simp [runD]
    rw [h1]
    refine ⟨rs ++ [(p.1, p.2.1, l, c)], k, _, _, _, rfl, ⟨fun r hr => ?_, fun r hr => ?_, ?_⟩, fun s g m l' h1 h2 => ?_, l + 1, hx, by (clear hq hL hlc hlen hk2 hk; omega), fun r hr => ?_, by (clear hq hL hlc hlen hk2 hl; omega), by simp; (clear hq hL hlc hk2 hk hl; omega), fun m l' e1 h2 h3 => ?_⟩
    · rcases List.mem_append.1 hr with hr | hr
      · exact ro.path r hr
      · simp at hr; subst hr; exact ⟨p.2.2, hp, hm⟩
    · rcases List.mem_append.1 hr with hr | hr
      · exact ro.turn r hr
      · simp at hr; subst hr; exact ⟨hlc, by show c ≤ last; (clear hL hlc hlen hk2 hk hl; omega)⟩
    · rw [List.map_append, List.nodup_append]
      refine ⟨ro.nd, by simp, fun a ha b hb => ?_⟩
      simp at hb; subst hb
      obtain ⟨r, hr, rfl⟩ := List.mem_map.1 ha
      intro e
      simp [rkey] at e
      rcases kb r hr with z | z
      · refine hnot ?_
        have : (r.1, r.2.1) = ends p := by simp [ends, e.1, e.2.1]
        rw [← this]; exact z
      · (clear hq hL hlc hlen hk2 hk hl; omega)
    · obtain ⟨c', hc'⟩ := du s g m l' h1 h2
      exact ⟨c', by simp [hc']⟩
    · rcases List.mem_append.1 hr with hr | hr
      · exact kb' r hr
      · simp at hr; subst hr; exact .inr ⟨rfl, by show l < l + 1; (clear hq hL hlc hlen hk2 hk hl; omega)⟩
    · by_cases e : l' = l
      · subst e; exact ⟨c, by simp⟩
      · obtain ⟨c', hc'⟩ := hd m l' e1 (by (clear h3 hq hL hlc hlen hk2 hk hl; omega)) h3
        exact ⟨c', by simp [hc']⟩
  · simp at hq
    refine ⟨rs, k, _, _, _, rfl, ro, du, l + 1, hx, by (clear hq hL hlc hlen hk2 hk; omega), kb', by (clear hq hL hlc hlen hk2 hl; omega), by (clear hq hL hlc hk2 hk hl; omega), fun m l' e1 h2 h3 => ?_⟩
    by_cases e : l' = l
    · subst e; have := hm m e1; (clear h2 hlc hk hl hL hlen hk2; omega)
    · exact hd m l' e1 (by (clear h3 hq hL hlc hlen hk2 hk hl; omega)) h3
theorem tale_b1 {ns : List Int} {net : D} {ps ps1 : List Path} {p : Path} {last k l : Nat} {rs : List Run} {xs : List Nat} {x9 x10 : Option (Kd × D)} {h : Ev → Fl} {Q : Fl → Prop} (hp : p ∈ ps) (hpm : ∀ m, p.2.2 = some m → 1 ≤ m) (hnot : ends p ∉ ps1.map ends) (hl : l < last) (hk : k = ps1.length * last + l) (hk2 : k + 1 ≤ 10000) (ro : RunsOk ps last rs) (du : DueB ps1 last rs) (kb : KeysB ps1 p l rs) (hx : xs = List.range' (l + 1) (last - (l + 1))) (hlen : rs.length ≤ k)
    (hd : ∀ m (l' : Nat), p.2.2 = some m → l' < l → (l' : Int) + m ≤ last → ∃ c, (p.1, p.2.1, l', c) ∈ rs) :
    Wp (g_L_tale_b1 (evT (ns.map D.int) net last rs k [some (.fz, .int p.1), some (.fz, .int p.2.1), some (.fz, optD p.2.2), some (.fz, .int l), x9, x10])) (loopQ (InvT1 ns net ps last ps1 p xs) h Q) := by
  have hck := cell_okI (ns := ns) (j := 3 + ((k : Int) + 1) % 60) (i := 3 + (k + 1) % 60) (by (clear hlen hk2 hk hl; omega))
  have hmk := mix_ok (cellF ns (3 + (k + 1) % 60)) ((k : Int) + 1) (by (clear hlen hk2 hk hl; omega)) (by (clear hlen hk hl; omega))
  have hnk := mix_nn (cellF ns (3 + (k + 1) % 60)) ((k : Int) + 1) (by (clear hlen hk2 hk hl; omega)) (by (clear hlen hk hl; omega))
  generalize mixF (cellF ns (3 + (k + 1) % 60)) ((k : Int) + 1) = nu at *
  have ek : (k : Int) + 1 = ((k + 1 : Nat) : Int) := by (clear hnk hlen hk2 hk hl; omega)
  cases o : p.2.2 with
  | none =>
    obtain ⟨c, ec, hc⟩ := emod_nat (nu / 3) (n := 4) (by decide)
    have ec : (l : Int) + 1 + nu / 3 % 4 = ((l + 1 + c : Nat) : Int) := by rw [show nu / 3 % 4 = (c : Int) from ec]; (clear hc ec ek hnk hlen hk2 hk hl; omega)
    simp (disch := first | omega | rfl) [g_L_tale_b1, hck, hmk, optD]
    refine wp_if ?_ ?_ <;> intro hq <;> simp (disch := first | omega | rfl) [g_L_tale_j3, g_L_tale_j2]
    · rw [ek]
      refine ⟨rs, k + 1, _, _, _, by rw [o]; rfl, ro, du, l + 1, hx, by (clear ec hc ek hnk hlen hk2 hk; omega), fun r hr => ?_, by (clear ec hc ek hnk hlen hk2 hl; omega), by (clear ec hc ek hnk hk2 hk hl; omega), by simp [o]⟩
      rcases kb r hr with z | z
      · exact .inl z
      · exact .inr ⟨z.1, by (clear ec hc ek hnk hlen hk2 hk hl; omega)⟩
    · rw [ec, ek]
      have := tale_j1 (ns := ns) (net := net) (x9 := some (.fz, .int nu)) (h := h) (Q := Q) (k := k + 1) (c := l + 1 + c) hp hnot hl (by (clear ec hc ek hnk hlen hk2 hl; omega)) (by (clear ec hc ek hnk hlen hk hl; omega)) ro du kb hx (by (clear ec hc ek hnk hk2 hk hl; omega)) hd (by (clear ec hc ek hnk hlen hk2 hk hl; omega)) (by simp [o])
      rw [o] at this
      exact this
  | some m =>
    have m1 := hpm m o
    have hmin : (0 : Int) < min m 4 := by (clear ek hnk hlen hk2 hk hl; omega)
    have e1 := Int.emod_nonneg (nu / 3) (b := min m 4) (by (clear hmin ek hnk hlen hk2 hk hl; omega))
    have e2 := Int.emod_lt_of_pos (nu / 3) hmin
    obtain ⟨c, ec, hc1, hc2⟩ : ∃ c : Nat, (l : Int) + 1 + nu / 3 % min m 4 = c ∧ l < c ∧ (c : Int) ≤ l + m := by
      refine ⟨((l : Int) + 1 + nu / 3 % min m 4).toNat, ?_, ?_, ?_⟩
      · generalize nu / 3 % min m 4 = z at *; (clear e2 hmin m1 ek hnk hlen hk2 hk hl; omega)
      · generalize nu / 3 % min m 4 = z at *; (clear e2 hmin m1 ek hnk hlen hk2 hk hl; omega)
      · generalize nu / 3 % min m 4 = z at *; (clear e1 hmin ek hnk hlen hk2 hk hl; omega)
    obtain ⟨c', ec', hc'⟩ : ∃ c' : Nat, (l : Int) + m = c' ∧ l < c' := ⟨((l : Int) + m).toNat, by (clear hc2 hc1 ec e2 e1 hmin ek hnk hlen hk2 hk hl; omega), by (clear hc2 hc1 ec e2 e1 hmin ek hnk hlen hk2 hk hl; omega)⟩
    simp (disch := first | omega | rfl) [g_L_tale_b1, hck, hmk, optD, g_L_tale_j3, g_L_tale_j2]
    refine wp_if ?_ ?_ <;> intro hq <;> simp (disch := first | omega | rfl) []
    · rw [ec', ek]
      have := tale_j1 (ns := ns) (net := net) (x9 := some (.fz, .int nu)) (h := h) (Q := Q) (k := k + 1) (c := c') hp hnot hl (by (clear hc' ec' hc2 hc1 ec e2 e1 hmin m1 ek hnk hlen hk2 hl; omega)) (by (clear hc' ec' hc2 hc1 ec e2 e1 hmin m1 ek hnk hlen hk hl; omega)) ro du kb hx (by (clear hc' ec' hc2 hc1 ec e2 e1 hmin m1 ek hnk hk2 hk hl; omega)) hd hc' (by rintro m' e; rw [o] at e; cases e; (clear hc' hc2 hc1 ec e2 e1 hmin m1 ek hnk hlen hk2 hk hl; omega))
      rw [o] at this
      exact this
    · rw [ec, ek]
      have := tale_j1 (ns := ns) (net := net) (x9 := some (.fz, .int nu)) (h := h) (Q := Q) (k := k + 1) (c := c) hp hnot hl (by (clear hc' ec' hc2 hc1 ec e2 e1 hmin m1 ek hnk hlen hk2 hl; omega)) (by (clear hc' ec' hc2 hc1 ec e2 e1 hmin m1 ek hnk hlen hk hl; omega)) ro du kb hx (by (clear hc' ec' hc2 hc1 ec e2 e1 hmin m1 ek hnk hk2 hk hl; omega)) hd hc1 (by rintro m' e; rw [o] at e; cases e; (clear hc' ec' hc2 hc1 e1 hmin m1 ek hnk hlen hk2 hk hl; omega))
      rw [o] at this
      exact this
theorem RunsOk.reverse {ps : List Path} {last : Nat} {rs : List Run} (h : RunsOk ps last rs) : RunsOk ps last rs.reverse :=
  ⟨fun r hr => h.path r (by simpa using hr), fun r hr => h.turn r (by simpa using hr), by rw [List.map_reverse]; exact (List.reverse_perm _).nodup_iff.2 h.nd⟩
theorem tale_ok (ns : List Int) {n : Nat} {ps : List Path} (ok : NetOk n ps) (hps : ps.length ≤ 64) : ∃ last rs ss, GoodT n ps last rs ss ∧ last ≤ 24 ∧ rs.length ≤ 1600 ∧ ss.length ≤ 4 ∧ φ_L_tale [.scr (ns.map D.int), netD n ps] = .ok .fz (taleD last rs ss) := by
  have hc0 := cell_ok0 (ns := ns)
  have hc2 := cell_ok2 (ns := ns)
  have hm := mix_ok (cellF ns 0) 1 (by decide) (by decide)
  refine run_el (φ_L_tale [.scr (ns.map D.int), netD n ps]) rfl ?_
  have e1 : idxD (netD n ps) (.int 1) = some (.fz, .lst (ps.map pathD)) := by simp [netD]
  have j6 : ∀ (last : Nat) (Q : Fl → Prop), last ≤ 24 → Q = runQ (fun x => ∃ last rs ss, GoodT n ps last rs ss ∧ last ≤ 24 ∧ rs.length ≤ 1600 ∧ ss.length ≤ 4 ∧ x = .ok .fz (taleD last rs ss)) → Wp (g_L_tale_j6 [some (.fz, .scr (ns.map D.int)), some (.fz, netD n ps), some (.fz, .int last), none, none, none, none, none, none, none, none]) Q := fun last Q hlast hQ => by
    simp (disch := first | omega | rfl) [g_L_tale_j6, e1]
    refine wp_forM (InvT2 ns (netD n ps) ps last) ?_ ?_ ⟨[], 0, [], _, _, _, _, _, _, rfl, rfl, ⟨by simp, by simp, by simp⟩, by simp [DueB], by simp, by simp, by simp⟩
    · rintro ⟨s, g, o⟩ xs _ _ ⟨rs, k, ps1, x5, x6, x7, x8, x9, x10, rfl, hp, ro, du, kb, hk, hlen⟩
      have hmem : (s, g, o) ∈ ps := by rw [hp]; simp
      have hnot : ends (s, g, o) ∉ ps1.map ends := by
        have := ok.nd
        rw [hp, List.map_append, List.nodup_append] at this
        intro z
        exact this.2.2 _ z _ (by simp) rfl
      have hb : ps1.length < 64 := by have := congrArg List.length hp; simp at this; (clear hlen hk hlast; omega)
      have hkb : ps1.length * last ≤ 63 * 24 := Nat.mul_le_mul (by (clear hlen hk hlast hps; omega)) hlast
      refine ⟨_, rfl, ?_⟩
      simp (disch := first | omega | rfl) [g_L_tale_b2]
      rw [rangeD_eq, range_eq']
      refine wp_forM1 (InvT1 ns (netD n ps) ps last ps1 (s, g, o)) ?_ ?_ ⟨rs, k, _, _, _, rfl, ro, du, 0, rfl, by (clear hkb hb hlen hk hlast hps; omega), fun r hr => .inl (kb r hr), by (clear hkb hb hlen hlast hps; omega), hlen, by intro m l' _ h; (clear hkb hb hlen hk hlast hps; omega)⟩
      · rintro l ys _ _ ⟨rs, k, y8, y9, y10, rfl, ro, du, l', hys, hl', kb, hk, hlen, hd⟩
        obtain ⟨rfl, hl, hy'⟩ := range'_cons hys
        refine ⟨_, rfl, ?_⟩
        simp only [Int.zero_add]
        exact tale_b1 (x9 := y9) (x10 := y10) hmem (fun m e => (ok.m _ hmem m e).1) hnot hl hk (by (clear hl hlen hb hps; omega)) ro du kb hy' hlen hd
      · rintro _ ⟨rs, k, y8, y9, y10, rfl, ro, du, l', hys, hl', kb, hk, hlen, hd⟩
        have : l' = last := by
          have := congrArg List.length hys
          simp at this; (clear hlen hk hkb hb hlast hps; omega)
        subst this
        refine ⟨rs, k, ps1 ++ [(s, g, o)], _, _, _, _, _, _, rfl, by rw [hp]; simp, ro, fun s' g' m l h1 h2 => ?_, fun r hr => ?_, by simp [Nat.succ_mul]; (clear hl' hkb hlast hlen hb hps; omega), hlen⟩
        · rcases List.mem_append.1 h1 with h1 | h1
          · exact du s' g' m l h1 h2
          · simp at h1
            obtain ⟨rfl, rfl, rfl⟩ := h1
            have := (ok.m _ hmem m rfl).1
            exact hd m l rfl (by (clear hk hl' hkb hlast hlen hb hps; omega)) h2
        · rcases kb r hr with z | z
          · simp at z ⊢; exact .inl z
          · simp [z.1]
    · rintro _ ⟨rs, k, ps1, x5, x6, x7, x8, x9, x10, rfl, hp, ro, du, kb, hk, hlen⟩
      simp at hp
      subst hp
      have hkb : ps.length * last ≤ 64 * 24 := Nat.mul_le_mul hps hlast
      obtain ⟨ss, so, hss, hs⟩ := signs_ok ns (n := n) (last := last) (ps := ps) (by have := ok.n1; (clear hkb hk hlen hlast hps; omega)) (by (clear hkb hk hlen hps; omega))
      simp (disch := first | omega | rfl) [g_L_tale_j5]
      refine wp_if ?_ ?_ <;> intro hq <;> simp (disch := first | omega | rfl) [g_L_tale_j4, hs]
      · subst hQ
        simp (disch := first | omega | rfl) []
        refine ⟨last, rs.reverse, ss, ⟨ro.reverse, fun s g m l h1 h2 => ?_, so⟩, hlast, by simp; (clear hss hlast hps; omega), hss, by simp [taleD]⟩
        obtain ⟨c, hc⟩ := du s g m l h1 h2
        exact ⟨c, by simpa using hc⟩
      · subst hQ
        simp (disch := first | omega | rfl) []
        exact ⟨last, rs, ss, ⟨ro, du, so⟩, hlast, by (clear hss hlast hps; omega), hss, rfl⟩
  obtain ⟨a, ea, ha⟩ := emod_nat (cellF ns 2) (n := 9) (by decide)
  obtain ⟨b, eb, hb⟩ := emod_nat (cellF ns 2) (n := 25) (by decide)
  have ea : cellF ns 2 % 9 = (a : Int) := ea
  have eb : cellF ns 2 % 25 = (b : Int) := eb
  simp (disch := first | omega | rfl) [ev0, g_L_tale, hc0, hc2, hm, ea]
  refine wp_if ?_ ?_ <;> intro hq <;> simp (disch := first | omega | rfl) [hc2, eb]
  · exact j6 b _ (by (clear eb ea hb ha hps; omega)) rfl
  · exact j6 a _ (by (clear eb ea hb ha hps; omega)) rfl

noncomputable def Sm (x : Int) : Prop := x.natAbs < 10 ^ 62
theorem log_sm {x : Int} (h : Sm x) : x.natAbs.log2 < 1920 := by
  have : x.natAbs < 2 ^ 1920 := Nat.lt_of_lt_of_le h (by decide +kernel)
  by_cases z : x.natAbs = 0
  · rw [z]; decide
  · exact (Nat.log2_lt z).2 this
theorem txt_sm {x : Int} (h : Sm x) : (PyData.shown (.int x)).length ≤ 1921 := by
  have e := int_text_length_le (a := x) (k := 1920) (by decide) (log_sm h)
  show (Str.ofString (toString x)).length ≤ 1921
  rw [ofString_length]; omega
noncomputable abbrev GR := Int × Int × Int × Int
noncomputable abbrev GS := Int × Int × Str
noncomputable def grD (r : GR) : D := .tup [.int r.1, .int r.2.1, .int r.2.2.1, .int r.2.2.2]
noncomputable def gsD (x : GS) : D := .tup [.int x.1, .int x.2.1, .str x.2.2]
noncomputable def glD (last : Int) (rs : List GR) (ss : List GS) : D := .tup [.int last, .lst (rs.map grD), .lst (ss.map gsD)]
noncomputable def SmR (r : GR) : Prop := Sm r.1 ∧ Sm r.2.1 ∧ Sm r.2.2.1 ∧ Sm r.2.2.2
noncomputable def SmS (x : GS) : Prop := Sm x.1 ∧ Sm x.2.1 ∧ nmOk x.2.2 = true
theorem sh_run {r : GR} (h : SmR r) : shO (py (grD r)) = true := by
  obtain ⟨a, b, c, d⟩ := r
  obtain ⟨h1, h2, h3, h4⟩ := h
  change Sm a at h1; change Sm b at h2; change Sm c at h3; change Sm d at h4
  have l1 := log_sm h1
  have l2 := log_sm h2
  have l3 := log_sm h3
  have l4 := log_sm h4
  have t1 := txt_sm h1
  have t2 := txt_sm h2
  have t3 := txt_sm h3
  have t4 := txt_sm h4
  have e : py (grD (a, b, c, d)) = some (.tuple [.int a, .int b, .int c, .int d]) := rfl
  have tl := tupleText_len_le [PyData.shown (.int a), PyData.shown (.int b), PyData.shown (.int c), PyData.shown (.int d)]
  simp only [List.map_cons, List.map_nil, List.sum_cons, List.sum_nil, List.length_cons, List.length_nil] at tl
  have tx : (PyData.shown (.tuple [.int a, .int b, .int c, .int d])).length ≤ 10000 := by
    show (tupleText [PyData.shown (.int a), PyData.shown (.int b), PyData.shown (.int c), PyData.shown (.int d)]).length ≤ 10000
    omega
  rw [e]
  simp [shO, PyData.showable, PyData.showableAll, PyData.hasDict, PyData.hasDictAll, PyData.depth, PyData.depthAll, l1, l2, l3, l4, tx]
theorem house_ok {h x : Int} : φ_P_is_house [.int h, .int x] = .ok .fz (.bl (decide (0 ≤ x ∧ x < h))) := by
  refine run_el (φ_P_is_house [.int h, .int x]) rfl ?_
  by_cases c : 0 ≤ x
  · simp (disch := first | omega | rfl) [ev0, g_P_is_house, c]
  · simp (disch := first | omega | rfl) [ev0, g_P_is_house, c]

theorem sh_sign {x : GS} (h : SmS x) : shO (py (gsD x)) = true := by
  obtain ⟨a, b, c⟩ := x
  obtain ⟨h1, h2, h3⟩ := h
  change Sm a at h1; change Sm b at h2; change nmOk c = true at h3
  have l1 := log_sm h1
  have l2 := log_sm h2
  have t1 := txt_sm h1
  have t2 := txt_sm h2
  simp only [nmOk, Bool.and_eq_true, decide_eq_true_eq] at h3
  obtain ⟨⟨h4, h5⟩, _⟩ := h3
  have t3 : (PyData.shown (.str c)).length ≤ 122 := by
    have := StrLaws.reprText_len c fun x hx => by
      simp only [PyData.strOk, Array.all_eq_true_iff_forall_mem, decide_eq_true_eq] at h4
      have := h4 x (by simpa using hx)
      omega
    show (reprText c).length ≤ 122
    omega
  have e : py (gsD (a, b, c)) = some (.tuple [.int a, .int b, .str c]) := by simp [gsD, py, pyL, h4]
  have tl := tupleText_len_le [PyData.shown (.int a), PyData.shown (.int b), PyData.shown (.str c)]
  simp only [List.map_cons, List.map_nil, List.sum_cons, List.sum_nil, List.length_cons, List.length_nil] at tl
  have tx : (PyData.shown (.tuple [.int a, .int b, .str c])).length ≤ 10000 := by
    show (tupleText [PyData.shown (.int a), PyData.shown (.int b), PyData.shown (.str c)]).length ≤ 10000
    omega
  rw [e]
  simp [shO, PyData.showable, PyData.showableAll, PyData.hasDict, PyData.hasDictAll, PyData.depth, PyData.depthAll, l1, l2, tx]
theorem sh_path {a b m : Int} (h1 : Sm a) (h2 : Sm b) (h3 : Sm m) : shO (py (.tup [.int a, .int b, .int m])) = true := by
  have l1 := log_sm h1
  have l2 := log_sm h2
  have l3 := log_sm h3
  have t1 := txt_sm h1
  have t2 := txt_sm h2
  have t3 := txt_sm h3
  have e : py (.tup [.int a, .int b, .int m]) = some (.tuple [.int a, .int b, .int m]) := rfl
  have tl := tupleText_len_le [PyData.shown (.int a), PyData.shown (.int b), PyData.shown (.int m)]
  simp only [List.map_cons, List.map_nil, List.sum_cons, List.sum_nil, List.length_cons, List.length_nil] at tl
  have tx : (PyData.shown (.tuple [.int a, .int b, .int m])).length ≤ 10000 := by
    show (tupleText [PyData.shown (.int a), PyData.shown (.int b), PyData.shown (.int m)]).length ≤ 10000
    omega
  rw [e]
  simp [shO, PyData.showable, PyData.showableAll, PyData.hasDict, PyData.hasDictAll, PyData.depth, PyData.depthAll, l1, l2, l3, tx]
theorem two {B : Prop} {f a b : R} (h : ∀ P : R → Prop, (B → P a) → (¬ B → P b) → P f) : (B → f = a) ∧ (¬ B → f = b) :=
  ⟨fun z => h (· = a) (fun _ => rfl) (fun y => absurd z y), fun z => h (· = b) (fun y => absurd y z) (fun _ => rfl)⟩
noncomputable def kI (a b : Int) : List Key := [.inl a, .inl b]
noncomputable def gE (p : Path) : Int × Int := ((p.1 : Int), (p.2.1 : Int))
theorem kI_inj {a b c d : Int} : kI a b = kI c d ↔ (a, b) = (c, d) := by simp [kI]
theorem dPutK_len {κ : Type} [DecidableEq κ] {k : κ} {ks : List κ} : (dPutK ks k).length ≤ ks.length + 1 := by unfold dPutK; split <;> simp
structure MoI (ps1 : List Path) (ks : List (List Key)) (vs : List D) : Prop where
  len : ks.length = vs.length
  few : ks.length ≤ ps1.length
  has : ∀ p ∈ ps1, dGet ks vs (kI p.1 p.2.1) = some (optD p.2.2)
  hasn : ∀ a b, (a, b) ∉ ps1.map gE → dGet ks vs (kI a b) = none
section
variable {n : Nat} {last : Int} {ps : List Path} {rs : List GR} {ss : List GS}
theorem gt_runs : idxD (glD last rs ss) (.int 1) = some (.fz, .lst (rs.map grD)) := by simp [glD]
theorem gt_signs : idxD (glD last rs ss) (.int 2) = some (.fz, .lst (ss.map gsD)) := by simp [glD]
theorem gt_last : idxD (glD last rs ss) (.int 0) = some (.fz, .int last) := by simp [glD]
theorem net_n : idxD (netD n ps) (.int 0) = some (.fz, .int n) := by simp [netD]
theorem net_ps : idxD (netD n ps) (.int 1) = some (.fz, .lst (ps.map pathD)) := by simp [netD]
theorem gE_nd (ok : NetOk n ps) : (ps.map gE).Nodup := by
  have e : ps.map gE = (ps.map ends).map fun x => ((x.1 : Int), (x.2 : Int)) := by rw [List.map_map]; rfl
  rw [e]
  refine List.Pairwise.map _ (fun a b h e => h ?_) ok.nd
  obtain ⟨a1, a2⟩ := a; obtain ⟨b1, b2⟩ := b
  simp only [Prod.mk.injEq] at e ⊢
  exact ⟨by omega, by omega⟩
theorem MoI.put {ps1 xs : List Path} {ks : List (List Key)} {vs : List D} {p : Path} (ok : NetOk n ps) (hp : ps = ps1 ++ p :: xs) (h : MoI ps1 ks vs) : MoI (ps1 ++ [p]) (dPutK ks (kI p.1 p.2.1)) (dPutV ks vs (kI p.1 p.2.1) (optD p.2.2)) := by
  refine ⟨dPut_len h.len, by have := dPutK_len (k := kI p.1 p.2.1) (ks := ks); have := h.few; simp; omega, fun q hq => ?_, fun a b hn => ?_⟩
  · rw [dGet_put h.len]
    rcases List.mem_append.1 hq with hq | hq
    · have : ¬ kI q.1 q.2.1 = kI p.1 p.2.1 := fun z => by
        have nd := gE_nd ok
        rw [hp, List.map_append, List.nodup_append] at nd
        exact nd.2.2 _ (List.mem_map.2 ⟨q, hq, rfl⟩) _ (List.mem_map.2 ⟨p, by simp, rfl⟩) (kI_inj.1 z)
      rw [if_neg this]; exact h.has q hq
    · simp at hq; subst hq; rw [if_pos rfl]
  · rw [List.map_append, List.mem_append, not_or] at hn
    rw [dGet_put h.len, if_neg, h.hasn a b hn.1]
    intro z
    exact hn.2 (by rw [kI_inj.1 z]; simp [gE])
noncomputable def InvPM (n : Nat) (ps : List Path) (xs : List Path) (ev : Ev) : Prop := ∃ ps1 ks vs x2 x3 x4, ev = [some (.fz, netD n ps), some (.ow, .dT ks vs), x2, x3, x4] ∧ ps = ps1 ++ xs ∧ MoI ps1 ks vs
theorem path_mosts_ok (ok : NetOk n ps) (hl : ps.length ≤ 200) : ∃ ks vs, MoI ps ks vs ∧ φ_P_path_mosts [netD n ps] = .ok .ow (.dT ks vs) := by
  refine run_el (φ_P_path_mosts [netD n ps]) rfl ?_
  simp (disch := first | omega | rfl) [ev0, g_P_path_mosts, net_ps]
  refine wp_forM (InvPM n ps) ?_ ?_ ⟨[], [], [], _, _, _, rfl, rfl, rfl, by simp, by simp, fun _ _ _ => rfl⟩
  · rintro ⟨s, g, o⟩ xs _ _ ⟨ps1, ks, vs, x2, x3, x4, rfl, hp, hM⟩
    have hb : ps1.length ≤ 200 := by have := congrArg List.length hp; simp at this; omega
    have hL : ks.length < LIM := by have := hM.few; simp [LIM]; omega
    refine ⟨_, rfl, ?_⟩
    simp (disch := first | omega | rfl) [g_P_path_mosts_b1, sitKT_ok hL]
    exact ⟨ps1 ++ [(s, g, o)], _, _, _, _, _, rfl, by rw [hp]; simp, hM.put (p := (s, g, o)) ok hp⟩
  · rintro _ ⟨ps1, ks, vs, x2, x3, x4, rfl, hp, hM⟩
    simp at hp
    subst hp
    simp (disch := first | omega | rfl) []
    exact hM
noncomputable def NoPl (n : Nat) (ps : List Path) (rs : List GR) (ss : List GS) : Prop := (∃ r ∈ rs, (r.1, r.2.1) ∉ ps.map gE) ∨ ∃ x ∈ ss, ¬ (0 ≤ x.1 ∧ x.1 < n)
noncomputable def InvP1 (n : Nat) (ps : List Path) (t : D) (ks : List (List Key)) (vs : List D) (rs xs : List GR) (ev : Ev) : Prop := ∃ pre x3 x4, ev = [some (.fz, netD n ps), some (.fz, t), some (.ow, .dT ks vs), x3, x4] ∧ rs = pre ++ xs ∧ ∀ r ∈ pre, (r.1, r.2.1) ∈ ps.map gE
noncomputable def InvP2 (n : Nat) (ps : List Path) (t : D) (ks : List (List Key)) (vs : List D) (ss xs : List GS) (ev : Ev) : Prop := ∃ pre x3 x4, ev = [some (.fz, netD n ps), some (.fz, t), some (.ow, .dT ks vs), x3, x4] ∧ ss = pre ++ xs ∧ ∀ x ∈ pre, 0 ≤ x.1 ∧ x.1 < n
theorem places_chk (ok : NetOk n ps) (hl : ps.length ≤ 200) (sr : ∀ r ∈ rs, SmR r) (sx : ∀ x ∈ ss, SmS x) : ∀ P : R → Prop, (NoPl n ps rs ss → P (.ex 1)) → (¬ NoPl n ps rs ss → P (.ok .fz .non)) → P (φ_P_check_places [netD n ps, glD last rs ss]) := fun P ok1 ok2 => by
  obtain ⟨ks, vs, hM, hm⟩ := path_mosts_ok ok hl
  refine run_el (motive := P) (φ_P_check_places [netD n ps, glD last rs ss]) rfl ?_
  obtain ⟨gg, hgg⟩ : ∃ gg, gg = g_P_check_places_b1 := ⟨_, rfl⟩
  obtain ⟨gh, hgh⟩ : ∃ gh, gh = g_P_check_places_b2 := ⟨_, rfl⟩
  simp (disch := first | omega | rfl) [ev0, g_P_check_places, hm, gt_runs]
  rw [← hgg]
  refine wp_forM (InvP1 n ps (glD last rs ss) ks vs rs) ?_ ?_ ⟨[], _, _, rfl, rfl, by simp⟩
  · rintro r xs _ - ⟨pre, x3, x4, rfl, hp, hg⟩
    have hr : r ∈ rs := by rw [hp]; simp
    have sh : shO (py (.tup [.int r.1, .int r.2.1, .int r.2.2.1, .int r.2.2.2])) = true := sh_run (sr r hr)
    have hin := notInD_dT (l := [.int r.1, .int r.2.1]) (ks := ks) (xs := vs) (q := kI r.1 r.2.1) (by simp [kI])
    refine ⟨_, rfl, ?_⟩
    by_cases b : (r.1, r.2.1) ∈ ps.map gE
    · obtain ⟨p, h1, h2⟩ := List.mem_map.1 b
      have := hM.has p h1
      simp only [gE, Prod.mk.injEq] at h2
      rw [h2.1, h2.2] at this
      rw [this] at hin
      simp (disch := first | omega | rfl) [hgg, g_P_check_places_b1, grD, hin]
      exact ⟨pre ++ [r], _, _, rfl, by simp [hp], fun q hq => by
        rcases List.mem_append.1 hq with hq | hq
        · exact hg q hq
        · simp at hq; rw [hq]; exact b⟩
    · rw [hM.hasn _ _ b] at hin
      simp (disch := first | omega | rfl) [hgg, g_P_check_places_b1, grD, hin, pAnd, pT, pRep, sh]
      exact ok1 (.inl ⟨r, hr, b⟩)
  · rintro _ ⟨pre, x3, x4, rfl, hp, hg⟩
    rw [List.append_nil] at hp
    subst hp
    simp (disch := first | omega | rfl) [g_P_check_places_j1, gt_signs]
    rw [← hgh]
    refine wp_forM1 (InvP2 n ps (glD last rs ss) ks vs ss) ?_ ?_ ⟨[], _, _, rfl, rfl, by simp⟩
    · rintro x xs _ - ⟨pre, x3, x4, rfl, hp, hh⟩
      have hx : x ∈ ss := by rw [hp]; simp
      have sh : shO (py (.tup [.int x.1, .int x.2.1, .str x.2.2])) = true := sh_sign (sx x hx)
      refine ⟨_, rfl, ?_⟩
      by_cases b : 0 ≤ x.1 ∧ x.1 < n
      · have ho := house_ok (h := n) (x := x.1)
        rw [decide_eq_true b] at ho
        simp (disch := first | omega | rfl) [hgh, g_P_check_places_b2, gsD, net_n, ho]
        exact ⟨pre ++ [x], _, _, rfl, by simp [hp], fun q hq => by
          rcases List.mem_append.1 hq with hq | hq
          · exact hh q hq
          · simp at hq; rw [hq]; exact b⟩
      · have ho := house_ok (h := n) (x := x.1)
        rw [decide_eq_false b] at ho
        simp (disch := first | omega | rfl) [hgh, g_P_check_places_b2, gsD, net_n, ho, pAnd, pT, pRep, sh]
        exact ok1 (.inr ⟨x, hx, b⟩)
    · rintro _ ⟨pre, x3, x4, rfl, hp, hh⟩
      rw [List.append_nil] at hp
      subst hp
      simp (disch := first | omega | rfl) []
      refine ok2 ?_
      rintro (⟨r, hr, z⟩ | ⟨x, hx, z⟩)
      · exact z (hg r hr)
      · exact z (hh x hx)
end
section
variable {n : Nat} {last : Int} {ps : List Path} {rs : List GR} {ss : List GS}
noncomputable def OutR (last : Int) (r : GR) : Prop := ¬ (0 ≤ r.2.2.1 ∧ r.2.2.1 < r.2.2.2 ∧ r.2.2.2 ≤ last)
noncomputable def OutS (last : Int) (x : GS) : Prop := ¬ (0 ≤ x.2.1 ∧ x.2.1 ≤ last)
noncomputable def OutT (last : Int) (rs : List GR) (ss : List GS) : Prop := ¬ (0 ≤ last ∧ last ≤ 60) ∨ (∃ r ∈ rs, OutR last r) ∨ ∃ x ∈ ss, OutS last x
noncomputable def InvO1 (last : Int) (t : D) (rs xs : List GR) (ev : Ev) : Prop := ∃ pre x2 x3, ev = [some (.fz, t), some (.fz, .int last), x2, x3] ∧ rs = pre ++ xs ∧ ∀ r ∈ pre, ¬ OutR last r
noncomputable def InvO2 (last : Int) (t : D) (ss xs : List GS) (ev : Ev) : Prop := ∃ pre x2 x3, ev = [some (.fz, t), some (.fz, .int last), x2, x3] ∧ ss = pre ++ xs ∧ ∀ x ∈ pre, ¬ OutS last x
theorem turns_chk (sl : Sm last) (sr : ∀ r ∈ rs, SmR r) (sx : ∀ x ∈ ss, SmS x) : ∀ P : R → Prop, (OutT last rs ss → P (.ex 2)) → (¬ OutT last rs ss → P (.ok .fz .non)) → P (φ_P_check_turns [glD last rs ss]) := fun P ok1 ok2 => by
  have ls := log_sm sl
  have l60 : ((60 : Int).natAbs.log2 < 1920) := by decide
  refine run_el (motive := P) (φ_P_check_turns [glD last rs ss]) rfl ?_
  obtain ⟨gg, hgg⟩ : ∃ gg, gg = g_P_check_turns_b1 := ⟨_, rfl⟩
  obtain ⟨gh, hgh⟩ : ∃ gh, gh = g_P_check_turns_b2 := ⟨_, rfl⟩
  by_cases c : 0 ≤ last ∧ last ≤ 60
  · obtain ⟨c1, c2⟩ := c
    simp (disch := first | omega | rfl) [ev0, g_P_check_turns, gt_last, c1, c2, g_P_check_turns_j2, gt_runs]
    rw [← hgg]
    refine wp_forM (InvO1 last (glD last rs ss) rs) ?_ ?_ ⟨[], _, _, rfl, rfl, by simp⟩
    · rintro r xs _ - ⟨pre, x3, x4, rfl, hp, hg⟩
      have hr : r ∈ rs := by rw [hp]; simp
      have sh : shO (py (.tup [.int r.1, .int r.2.1, .int r.2.2.1, .int r.2.2.2])) = true := sh_run (sr r hr)
      refine ⟨_, rfl, ?_⟩
      by_cases b1 : 0 ≤ r.2.2.1
      · by_cases b2 : r.2.2.1 < r.2.2.2
        · by_cases b3 : r.2.2.2 ≤ last
          · simp (disch := first | omega | rfl) [hgg, g_P_check_turns_b1, grD, b1, b2, b3]
            exact ⟨pre ++ [r], _, _, rfl, by simp [hp], fun q hq => by
              rcases List.mem_append.1 hq with hq | hq
              · exact hg q hq
              · simp at hq; rw [hq]; exact fun z => z ⟨b1, b2, b3⟩⟩
          · simp (disch := first | omega | rfl) [hgg, g_P_check_turns_b1, grD, b1, b2, b3, pAnd, pT, pRep, sh]
            exact ok1 (.inr (.inl ⟨r, hr, fun z => b3 z.2.2⟩))
        · simp (disch := first | omega | rfl) [hgg, g_P_check_turns_b1, grD, b1, b2, pAnd, pT, pRep, sh]
          exact ok1 (.inr (.inl ⟨r, hr, fun z => b2 z.2.1⟩))
      · simp (disch := first | omega | rfl) [hgg, g_P_check_turns_b1, grD, b1, pAnd, pT, pRep, sh]
        exact ok1 (.inr (.inl ⟨r, hr, fun z => b1 z.1⟩))
    · rintro _ ⟨pre, x3, x4, rfl, hp, hg⟩
      rw [List.append_nil] at hp
      subst hp
      simp (disch := first | omega | rfl) [g_P_check_turns_j1, gt_signs]
      rw [← hgh]
      refine wp_forM1 (InvO2 last (glD last rs ss) ss) ?_ ?_ ⟨[], _, _, rfl, rfl, by simp⟩
      · rintro x xs _ - ⟨pre, x3, x4, rfl, hp, hh⟩
        have hx : x ∈ ss := by rw [hp]; simp
        have sh : shO (py (.tup [.int x.1, .int x.2.1, .str x.2.2])) = true := sh_sign (sx x hx)
        refine ⟨_, rfl, ?_⟩
        by_cases b1 : 0 ≤ x.2.1
        · by_cases b2 : x.2.1 ≤ last
          · simp (disch := first | omega | rfl) [hgh, g_P_check_turns_b2, gsD, b1, b2]
            exact ⟨pre ++ [x], _, _, rfl, by simp [hp], fun q hq => by
              rcases List.mem_append.1 hq with hq | hq
              · exact hh q hq
              · simp at hq; rw [hq]; exact fun z => z ⟨b1, b2⟩⟩
          · simp (disch := first | omega | rfl) [hgh, g_P_check_turns_b2, gsD, b1, b2, pAnd, pT, pRep, sh]
            exact ok1 (.inr (.inr ⟨x, hx, fun z => b2 z.2⟩))
        · simp (disch := first | omega | rfl) [hgh, g_P_check_turns_b2, gsD, b1, pAnd, pT, pRep, sh]
          exact ok1 (.inr (.inr ⟨x, hx, fun z => b1 z.1⟩))
      · rintro _ ⟨pre, x3, x4, rfl, hp, hh⟩
        rw [List.append_nil] at hp
        subst hp
        simp (disch := first | omega | rfl) []
        refine ok2 ?_
        rintro (z | ⟨r, hr, z⟩ | ⟨x, hx, z⟩)
        · exact z ⟨c1, c2⟩
        · exact hg r hr z
        · exact hh x hx z
  · have bad : OutT last rs ss := .inl c
    by_cases d : 0 ≤ last
    · have d2 : ¬ last ≤ 60 := fun z => c ⟨d, z⟩
      simp (disch := first | omega | rfl) [ev0, g_P_check_turns, gt_last, d, d2, pAnd, pT, pInt, ls, l60]
      exact ok1 bad
    · simp (disch := first | omega | rfl) [ev0, g_P_check_turns, gt_last, d, pAnd, pT, pInt, ls, l60]
      exact ok1 bad
theorem fd_le {κ : Type} [DecidableEq κ] : ∀ (l a : List κ), (l.foldl (fun ds k => if k ∈ ds then ds else ds ++ [k]) a).length ≤ a.length + l.length
  | [], a => by simp
  | x :: l, a => by
    rw [List.foldl_cons]
    split
    · have := fd_le l a; simp only [List.length_cons]; omega
    · have := fd_le l (a ++ [x]); simp only [List.length_cons, List.length_append, List.length_nil] at this ⊢; omega
theorem fd_nd {κ : Type} [DecidableEq κ] : ∀ (l a : List κ), a.Nodup → (l.foldl (fun ds k => if k ∈ ds then ds else ds ++ [k]) a).length = a.length + l.length → (a ++ l).Nodup
  | [], a, n, _ => by simpa using n
  | x :: l, a, n, e => by
    rw [List.foldl_cons] at e
    split at e
    · have := fd_le l a; simp only [List.length_cons] at e; omega
    · rename_i hx
      have := fd_nd l (a ++ [x]) (by rw [List.nodup_append]; exact ⟨n, by simp, fun y hy z hz q => hx (by simp at hz; rw [← hz, ← q]; exact hy)⟩) (by simp only [List.length_cons, List.length_append, List.length_nil] at e ⊢; omega)
      simpa using this
theorem dd_same {κ : Type} [DecidableEq κ] {l : List κ} (h : l.Nodup) : (ST.dd l).length = l.length := by
  have : ∀ (l a : List κ), (a ++ l).Nodup → l.foldl (fun ds k => if k ∈ ds then ds else ds ++ [k]) a = a ++ l := fun l => by
    induction l with
    | nil => intro a _; simp
    | cons x l ih =>
      intro a ha
      have hx : x ∉ a := fun z => by
        rw [List.nodup_append] at ha
        exact ha.2.2 x z x (by simp) rfl
      rw [List.foldl_cons, if_neg hx, ih (a ++ [x]) (by simpa using ha)]
      simp
  have := this l [] (by simpa using h)
  simp [ST.dd, this]
theorem dd_less {κ : Type} [DecidableEq κ] {l : List κ} (h : ¬ l.Nodup) : (ST.dd l).length < l.length := by
  have a := fd_le l []
  have b : ¬ (ST.dd l).length = l.length := fun e => h (by simpa using fd_nd l [] (by simp) (by simpa [ST.dd] using e))
  have a : (ST.dd l).length ≤ l.length := by simpa [ST.dd] using a
  omega
noncomputable def gkey (r : GR) : Int × Int × Int := (r.1, r.2.1, r.2.2.1)
noncomputable def kG (t : Int × Int × Int) : List Key := [.inl t.1, .inl t.2.1, .inl t.2.2]
noncomputable def kX (x : GS) : List Key := [.inl x.1, .inl x.2.1, .inr x.2.2]
noncomputable def k3G (r : GR) : D := .tup [.int r.1, .int r.2.1, .int r.2.2.1]
theorem kG_inj {t u : Int × Int × Int} (e : kG t = kG u) : t = u := by
  obtain ⟨a, b, c⟩ := t; obtain ⟨a', b', c'⟩ := u
  simp [kG] at e; simp; exact e
theorem kX_inj {x y : GS} (e : kX x = kX y) : x = y := by
  obtain ⟨a, b, c⟩ := x; obtain ⟨a', b', c'⟩ := y
  simp [kX] at e; simp; exact e
theorem nd_inj {α β : Type} {f : α → β} (hf : ∀ {x y}, f x = f y → x = y) {l : List α} : (l.map f).Nodup ↔ l.Nodup :=
  ⟨fun z => List.Pairwise.of_map _ (fun a b h e => h (by rw [e])) z, fun z => List.Pairwise.map _ (fun a b h e => h (hf e)) z⟩
theorem keys_r : keysL (rs.map k3G) = some ((rs.map gkey).map kG) := by
  induction rs with
  | nil => rfl
  | cons r rs ih => simp only [List.map_cons, keysL, ih, k3G]; simp [kG, gkey]
theorem keys_s : keysL (ss.map gsD) = some (ss.map kX) := by
  induction ss with
  | nil => rfl
  | cons r rs ih => simp only [List.map_cons, gsD, keysL]; rw [ih]; simp [kX]
noncomputable def Dbl (rs : List GR) (ss : List GS) : Prop := ¬ (rs.map gkey).Nodup ∨ ¬ ss.Nodup
theorem set_r (h : rs.length < 4000) : ∃ k : Nat, (k < rs.length ↔ ¬ (rs.map gkey).Nodup) ∧ lenSetD (.lst (rs.map k3G)) = some (.fz, .int k) := by
  have lk := lenSetD_ok (keys_r (rs := rs)) (by simpa using h)
  refine ⟨_, ?_, lk⟩
  by_cases nd : (rs.map gkey).Nodup
  · have := dd_same ((nd_inj kG_inj).2 nd)
    simp only [List.length_map] at this
    exact iff_of_false (fun z => Nat.ne_of_lt z this) (fun z => z nd)
  · have := dd_less (fun z => nd ((nd_inj kG_inj).1 z))
    simp only [List.length_map] at this
    exact iff_of_true this nd
theorem set_s (h : ss.length < 4000) : ∃ k : Nat, (k < ss.length ↔ ¬ ss.Nodup) ∧ lenSetD (.lst (ss.map gsD)) = some (.fz, .int k) := by
  have lk := lenSetD_ok (keys_s (ss := ss)) (by simpa using h)
  refine ⟨_, ?_, lk⟩
  by_cases nd : ss.Nodup
  · have := dd_same ((nd_inj kX_inj).2 nd)
    simp only [List.length_map] at this
    exact iff_of_false (fun z => Nat.ne_of_lt z this) (fun z => z nd)
  · have := dd_less (fun z => nd ((nd_inj kX_inj).1 z))
    simp only [List.length_map] at this
    exact iff_of_true this nd
theorem run_key_ok (r : GR) : φ_P_run_key [grD r] = .ok .fz (k3G r) := by
  refine run_el (φ_P_run_key [grD r]) rfl ?_
  simp (disch := first | omega | rfl) [ev0, g_P_run_key, grD, k3G]
theorem unlike_chk (hrl : rs.length < 4000) (hsl : ss.length < 4000) : ∀ P : R → Prop, (Dbl rs ss → P (.ex 3)) → (¬ Dbl rs ss → P (.ok .fz .non)) → P (φ_P_check_unlike [glD last rs ss]) := fun P ok1 ok2 => by
  have hc := compO_map (b := bName 0) (e := eFn 1 φ_P_run_key (aCons (varR 0) aNil)) (ev := [none]) (enc := grD) (l := rs) k3G (by simp [LIM]; omega) (fun r _ => by
    refine ⟨_, rfl, .fz, by simp, ?_⟩
    simp [run_key_ok])
  obtain ⟨a, ha, l1⟩ := set_r hrl
  obtain ⟨b, hb, l2⟩ := set_s hsl
  refine run_el (motive := P) (φ_P_check_unlike [glD last rs ss]) rfl ?_
  by_cases d1 : a < rs.length
  · simp (disch := first | omega | rfl) [ev0, g_P_check_unlike, gt_runs, hc, l1, d1, pT]
    exact ok1 (.inl (ha.1 d1))
  · by_cases d2 : b < ss.length
    · simp (disch := first | omega | rfl) [ev0, g_P_check_unlike, gt_runs, hc, l1, d1, g_P_check_unlike_j1, gt_signs, l2, d2, pT]
      exact ok1 (.inr (hb.1 d2))
    · simp (disch := first | omega | rfl) [ev0, g_P_check_unlike, gt_runs, hc, l1, d1, g_P_check_unlike_j1, gt_signs, l2, d2]
      refine ok2 ?_
      rintro (z | z)
      · exact d1 (ha.2 z)
      · exact d2 (hb.2 z)
end
structure CoI (rs1 : List GR) (ks : List (List Key)) (vs : List D) : Prop where
  len : ks.length = vs.length
  few : ks.length ≤ rs1.length
  has : ∀ t, (dGet ks vs (kG t)).isSome = true ↔ t ∈ rs1.map gkey
theorem CoI.put {rs1 : List GR} {ks : List (List Key)} {vs : List D} {d : D} (h : CoI rs1 ks vs) (r : GR) : CoI (rs1 ++ [r]) (dPutK ks (kG (gkey r))) (dPutV ks vs (kG (gkey r)) d) :=
  ⟨dPut_len h.len, by have := dPutK_len (k := kG (gkey r)) (ks := ks); have := h.few; simp; omega, fun t => by
    rw [dGet_put h.len]
    by_cases e : kG t = kG (gkey r)
    · rw [if_pos e, kG_inj e]; simp
    · rw [if_neg e, h.has t, List.map_append]
      have : t ≠ gkey r := fun z => e (by rw [z])
      simp [this]⟩
section
variable {n : Nat} {last : Int} {ps : List Path} {rs : List GR} {ss : List GS}
noncomputable def LateR (ps : List Path) (r : GR) : Prop := ∃ p ∈ ps, ∃ m, p.2.2 = some m ∧ gE p = (r.1, r.2.1) ∧ r.2.2.1 + m < r.2.2.2
noncomputable def MissP (last : Int) (rs : List GR) (p : Path) : Prop := ∃ m, p.2.2 = some m ∧ ∃ l : Nat, (l : Int) + m ≤ last ∧ ((p.1 : Int), (p.2.1 : Int), (l : Int)) ∉ rs.map gkey
noncomputable def Late (ps : List Path) (last : Int) (rs : List GR) : Prop := (∃ r ∈ rs, LateR ps r) ∨ ∃ p ∈ ps, MissP last rs p
noncomputable def InvL1 (n : Nat) (ps : List Path) (ks : List (List Key)) (vs : List D) (rs xs : List GR) (ev : Ev) : Prop := ∃ pre x3 x4, ev = [some (.fz, netD n ps), some (.fz, .lst (rs.map grD)), some (.ow, .dT ks vs), x3, x4] ∧ rs = pre ++ xs ∧ ∀ r ∈ pre, ¬ LateR ps r
theorem same_p (ok : NetOk n ps) {p q : Path} (hp : p ∈ ps) (hq : q ∈ ps) (e : gE p = gE q) : p = q := by
  have nd := gE_nd ok
  clear ok
  induction ps with
  | nil => cases hp
  | cons a l ih =>
    rw [List.map_cons, List.nodup_cons] at nd
    rcases List.mem_cons.1 hp with hp | hp <;> rcases List.mem_cons.1 hq with hq | hq
    · rw [hp, hq]
    · exact absurd (List.mem_map.2 ⟨q, hq, by rw [← e, hp]⟩) nd.1
    · exact absurd (List.mem_map.2 ⟨p, hp, by rw [e, hq]⟩) nd.1
    · exact ih hp hq nd.2
theorem in_time_chk (ok : NetOk n ps) (hl : ps.length ≤ 200) (sr : ∀ r ∈ rs, SmR r) (hr : ∀ r ∈ rs, (r.1, r.2.1) ∈ ps.map gE) : ∀ P : R → Prop, ((∃ r ∈ rs, LateR ps r) → P (.ex 4)) → ((¬ ∃ r ∈ rs, LateR ps r) → P (.ok .fz .non)) → P (φ_P_check_runs_in_time [netD n ps, .lst (rs.map grD)]) := fun P ok1 ok2 => by
  obtain ⟨ks, vs, hM, hm⟩ := path_mosts_ok ok hl
  refine run_el (motive := P) (φ_P_check_runs_in_time [netD n ps, .lst (rs.map grD)]) rfl ?_
  obtain ⟨gg, hgg⟩ : ∃ gg, gg = g_P_check_runs_in_time_b1 := ⟨_, rfl⟩
  simp (disch := first | omega | rfl) [ev0, g_P_check_runs_in_time, hm]
  rw [← hgg]
  refine wp_forM1 (InvL1 n ps ks vs rs) ?_ ?_ ⟨[], _, _, rfl, rfl, by simp⟩
  · rintro r xs _ - ⟨pre, x3, x4, rfl, hp, hg⟩
    have hm : r ∈ rs := by rw [hp]; simp
    have sh : shO (py (.tup [.int r.1, .int r.2.1, .int r.2.2.1, .int r.2.2.2])) = true := sh_run (sr r hm)
    obtain ⟨p, hpm, he⟩ := List.mem_map.1 (hr r hm)
    have hd := hM.has p hpm
    have e1 : (p.1 : Int) = r.1 := congrArg Prod.fst he
    have e2 : (p.2.1 : Int) = r.2.1 := congrArg Prod.snd he
    rw [e1, e2] at hd
    have hgt : idxD (.dT ks vs) (.tup [.int r.1, .int r.2.1]) = some (.fz, optD p.2.2) := by
      rw [idxD_dT (q := kI r.1 r.2.1) (by simp [kI]), hd]; rfl
    have nx : ¬ LateR ps r → InvL1 n ps ks vs rs xs [some (.fz, netD n ps), some (.fz, .lst (rs.map grD)), some (.ow, .dT ks vs), some (.fz, grD r), some (.fz, optD p.2.2)] := fun z => ⟨pre ++ [r], _, _, rfl, by simp [hp], fun q hq => by
      rcases List.mem_append.1 hq with hq | hq
      · exact hg q hq
      · simp at hq; rw [hq]; exact z⟩
    simp only [grD] at nx
    refine ⟨_, rfl, ?_⟩
    cases ho : p.2.2 with
    | none =>
      rw [ho] at hgt nx
      simp (disch := first | omega | rfl) [hgg, g_P_check_runs_in_time_b1, grD, hgt]
      refine nx ?_
      rintro ⟨q, hq, m, hqm, hqe, _⟩
      rw [same_p ok hq hpm (hqe.trans he.symm), ho] at hqm
      cases hqm
    | some m =>
      rw [ho] at hgt nx
      by_cases b : r.2.2.1 + m < r.2.2.2
      · simp (disch := first | omega | rfl) [hgg, g_P_check_runs_in_time_b1, grD, hgt, b, pAnd, pT, pRep, sh]
        exact ok1 ⟨r, hm, p, hpm, m, ho, he, b⟩
      · simp (disch := first | omega | rfl) [hgg, g_P_check_runs_in_time_b1, grD, hgt, b]
        refine nx ?_
        rintro ⟨q, hq, m', hqm, hqe, hlt⟩
        rw [same_p ok hq hpm (hqe.trans he.symm), ho] at hqm
        cases hqm
        exact b hlt
  · rintro _ ⟨pre, x3, x4, rfl, hp, hg⟩
    rw [List.append_nil] at hp
    subst hp
    simp (disch := first | omega | rfl) []
    exact ok2 fun ⟨r, hr, z⟩ => hg r hr z
noncomputable def InvC1 (p : D) (last m : Int) (s g : Nat) (ks : List (List Key)) (vs : List D) (rs : List GR) (xs : List Nat) (ev : Ev) : Prop := ∃ pre x3, ev = [some (.fz, p), some (.fz, .int last), some (.fz, .dT ks vs), x3] ∧ List.range (last - m + 1).toNat = pre ++ xs ∧ ∀ l ∈ pre, ((s : Int), (g : Int), ((l : Nat) : Int)) ∈ rs.map gkey
theorem all_came_chk {s g : Nat} {m : Int} {ks : List (List Key)} {vs : List D} (h0 : 0 ≤ last) (hlast : last ≤ 60) (hs : s < 9) (hg : g < 9) (hm : 1 ≤ m) (hm2 : m ≤ 10 ^ 60) (hC : CoI rs ks vs) : ∀ P : R → Prop, (MissP last rs (s, g, some m) → P (.ex 4)) → (¬ MissP last rs (s, g, some m) → P (.ok .fz .non)) → P (φ_P_check_all_came [pathD (s, g, some m), .int last, .dT ks vs]) := fun P ok1 ok2 => by
  have sh : shO (py (.tup [.int s, .int g, .int m])) = true := sh_path (by unfold Sm; omega) (by unfold Sm; omega) (by unfold Sm; omega)
  refine run_el (motive := P) (φ_P_check_all_came [pathD (s, g, some m), .int last, .dT ks vs]) rfl ?_
  obtain ⟨gg, hgg⟩ : ∃ gg, gg = g_P_check_all_came_b1 := ⟨_, rfl⟩
  simp (disch := first | omega | rfl) [ev0, g_P_check_all_came, pathD]
  rw [rangeD_eq, ← hgg]
  refine wp_forM1 (InvC1 (.tup [.int s, .int g, .int m]) last m s g ks vs rs) ?_ ?_ ⟨[], _, rfl, rfl, by simp⟩
  · rintro l xs _ - ⟨pre, x3, rfl, hp, hh⟩
    have hl : l < (last - m + 1 : Int).toNat := by
      have : l ∈ List.range (last - m + 1 : Int).toNat := by rw [hp]; simp
      simpa using this
    have sl : l.log2 < 1920 := by simpa using log_sm (x := (l : Int)) (by unfold Sm; omega)
    have hin := notInD_dT (l := [.int s, .int g, .int l]) (ks := ks) (xs := vs) (q := kG ((s : Int), (g : Int), (l : Int))) (by simp [kG])
    refine ⟨_, rfl, ?_⟩
    simp only [Int.zero_add]
    by_cases b : ((s : Int), (g : Int), (l : Int)) ∈ rs.map gkey
    · rw [(hC.has _).2 b] at hin
      simp (disch := first | omega | rfl) [hgg, g_P_check_all_came_b1, hin]
      exact ⟨pre ++ [l], _, rfl, by simp [hp], fun q hq => by
        rcases List.mem_append.1 hq with hq | hq
        · exact hh q hq
        · simp at hq; rw [hq]; exact b⟩
    · have : (dGet ks vs (kG ((s : Int), (g : Int), (l : Int)))).isSome = false := by
        cases z : (dGet ks vs (kG ((s : Int), (g : Int), (l : Int)))).isSome with
        | false => rfl
        | true => exact absurd ((hC.has _).1 z) b
      rw [this] at hin
      simp (disch := first | omega | rfl) [hgg, g_P_check_all_came_b1, hin, pAnd, pT, pRep, pInt, sh, sl]
      exact ok1 ⟨m, rfl, l, by omega, b⟩
  · rintro _ ⟨pre, x3, rfl, hp, hh⟩
    rw [List.append_nil] at hp
    simp (disch := first | omega | rfl) []
    refine ok2 ?_
    rintro ⟨m', e, l, hlm, z⟩
    cases e
    exact z (hh l (by rw [← hp, List.mem_range]; omega))
noncomputable def InvTD (n : Nat) (ps : List Path) (t : D) (rs xs : List GR) (ev : Ev) : Prop := ∃ rs1 ks vs x3 x4, ev = [some (.fz, netD n ps), some (.fz, t), some (.ow, .dT ks vs), x3, x4] ∧ rs = rs1 ++ xs ∧ CoI rs1 ks vs
noncomputable def InvTE (n : Nat) (ps : List Path) (t : D) (last : Int) (rs : List GR) (ks : List (List Key)) (vs : List D) (xs : List Path) (ev : Ev) : Prop := ∃ pre x3 x4, ev = [some (.fz, netD n ps), some (.fz, t), some (.ow, .dT ks vs), x3, x4] ∧ ps = pre ++ xs ∧ ∀ p ∈ pre, ¬ MissP last rs p
theorem mosts_chk (ok : NetOk n ps) (hl : ps.length ≤ 200) (h0 : 0 ≤ last) (hlast : last ≤ 60) (hrl : rs.length < 4000) (sr : ∀ r ∈ rs, SmR r) (hr : ∀ r ∈ rs, (r.1, r.2.1) ∈ ps.map gE) : ∀ P : R → Prop, (Late ps last rs → P (.ex 4)) → (¬ Late ps last rs → P (.ok .fz .non)) → P (φ_P_check_mosts [netD n ps, glD last rs ss]) := fun P ok1 ok2 => by
  obtain ⟨i1, i2⟩ := two (in_time_chk ok hl sr hr)
  refine run_el (motive := P) (φ_P_check_mosts [netD n ps, glD last rs ss]) rfl ?_
  by_cases c : ∃ r ∈ rs, LateR ps r
  · simp (disch := first | omega | rfl) [ev0, g_P_check_mosts, gt_runs, i1 c]
    exact ok1 (.inl c)
  · obtain ⟨gg, hgg⟩ : ∃ gg, gg = g_P_check_mosts_b2 := ⟨_, rfl⟩
    simp (disch := first | omega | rfl) [ev0, g_P_check_mosts, gt_runs, i2 c]
    refine wp_forM (InvTD n ps (glD last rs ss) rs) ?_ ?_ ⟨[], [], [], _, _, rfl, rfl, rfl, by simp, fun t => by simp; rfl⟩
    · rintro r xs _ - ⟨rs1, ks, vs, x3, x4, rfl, hp, hC⟩
      have hb : rs1.length < 4000 := by have := congrArg List.length hp; simp at this; omega
      have hL : ks.length < LIM := by have := hC.few; simp [LIM]; omega
      refine ⟨_, rfl, ?_⟩
      simp (disch := first | omega | rfl) [g_P_check_mosts_b1, run_key_ok, k3G, sitKT_ok hL]
      exact ⟨rs1 ++ [r], _, _, _, _, rfl, by rw [hp]; simp, hC.put r⟩
    · rintro _ ⟨rs1, ks, vs, x3, x4, rfl, hp, hC⟩
      rw [List.append_nil] at hp
      subst hp
      simp (disch := first | omega | rfl) [g_P_check_mosts_j1, net_ps]
      rw [← hgg]
      refine wp_forM1 (InvTE n ps (glD last rs ss) last rs ks vs) ?_ ?_ ⟨[], _, _, rfl, rfl, by simp⟩
      · rintro ⟨s, g, o⟩ xs _ - ⟨pre, x3, x4, rfl, hp, hh⟩
        have hm : (s, g, o) ∈ ps := by rw [hp]; simp
        have nx : ∀ x3 x4, ¬ MissP last rs (s, g, o) → InvTE n ps (glD last rs ss) last rs ks vs xs [some (.fz, netD n ps), some (.fz, glD last rs ss), some (.ow, .dT ks vs), x3, x4] := fun _ _ z => ⟨pre ++ [(s, g, o)], _, _, rfl, by simp [hp], fun q hq => by
          rcases List.mem_append.1 hq with hq | hq
          · exact hh q hq
          · simp at hq; rw [hq]; exact z⟩
        refine ⟨_, rfl, ?_⟩
        have n8 := ok.n8
        have hs := ok.s _ hm
        have hg := ok.g _ hm
        cases o with
        | none =>
          simp (disch := first | omega | rfl) [hgg, g_P_check_mosts_b2, pathD]
          refine nx _ _ ?_
          rintro ⟨m, e, _⟩
          cases e
        | some m =>
          obtain ⟨m1, m2⟩ := ok.m _ hm m rfl
          obtain ⟨a1, a2⟩ := two (all_came_chk (s := s) (g := g) h0 hlast (by simp at hs; omega) (by simp at hg; omega) m1 m2 hC)
          have ei : idxD (pathD (s, g, some m)) (.int 2) = some (.fz, .int m) := by simp [pathD]
          by_cases b : MissP last rs (s, g, some m)
          · simp (disch := first | omega | rfl) [hgg, g_P_check_mosts_b2, ei, gt_last, a1 b]
            exact ok1 (.inr ⟨_, hm, b⟩)
          · simp (disch := first | omega | rfl) [hgg, g_P_check_mosts_b2, ei, gt_last, a2 b]
            exact nx _ _ b
      · rintro _ ⟨pre, x3, x4, rfl, hp, hh⟩
        rw [List.append_nil] at hp
        subst hp
        simp (disch := first | omega | rfl) []
        refine ok2 ?_
        rintro (z | ⟨p, hp, z⟩)
        · exact c z
        · exact hh p hp z
inductive Due (n : Nat) (ps : List Path) (last : Int) (rs : List GR) (ss : List GS) : Nat → Prop
  | a : NoPl n ps rs ss → Due n ps last rs ss 1
  | b : ¬ NoPl n ps rs ss → OutT last rs ss → Due n ps last rs ss 2
  | c : ¬ NoPl n ps rs ss → ¬ OutT last rs ss → Dbl rs ss → Due n ps last rs ss 3
  | d : ¬ NoPl n ps rs ss → ¬ OutT last rs ss → ¬ Dbl rs ss → Late ps last rs → Due n ps last rs ss 4
  | e : ¬ NoPl n ps rs ss → ¬ OutT last rs ss → ¬ Dbl rs ss → ¬ Late ps last rs → Due n ps last rs ss 0
structure SmT (last : Int) (rs : List GR) (ss : List GS) : Prop where
  l : Sm last
  r : ∀ r ∈ rs, SmR r
  x : ∀ x ∈ ss, SmS x
  rl : rs.length < 4000
  sl : ss.length < 4000
theorem due_ex : ∃ k, Due n ps last rs ss k := by
  by_cases a : NoPl n ps rs ss
  · exact ⟨_, .a a⟩
  by_cases b : OutT last rs ss
  · exact ⟨_, .b a b⟩
  by_cases c : Dbl rs ss
  · exact ⟨_, .c a b c⟩
  by_cases d : Late ps last rs
  · exact ⟨_, .d a b c d⟩
  · exact ⟨_, .e a b c d⟩
theorem pl_of (h : ¬ NoPl n ps rs ss) : ∀ r ∈ rs, (r.1, r.2.1) ∈ ps.map gE := fun r hr => Classical.byContradiction fun z => h (.inl ⟨r, hr, z⟩)
theorem out_of (h : ¬ OutT last rs ss) : 0 ≤ last ∧ last ≤ 60 := Classical.byContradiction fun z => h (.inl z)
theorem found_ok {k : Nat} (ok : NetOk n ps) (hl : ps.length ≤ 200) (sm : SmT last rs ss) (due : Due n ps last rs ss k) : φ_L_found [netD n ps, glD last rs ss] = .ok .fz (.int k) := by
  show foundR (φ_P_check_tale [netD n ps, glD last rs ss]) = _
  obtain ⟨a1, a2⟩ := two (places_chk (last := last) ok hl sm.r sm.x)
  obtain ⟨b1, b2⟩ := two (turns_chk sm.l sm.r sm.x)
  obtain ⟨c1, c2⟩ := two (unlike_chk (last := last) sm.rl sm.sl)
  cases due with
  | a h =>
    have : φ_P_check_tale [netD n ps, glD last rs ss] = .ex 1 := by
      refine run_el (φ_P_check_tale [netD n ps, glD last rs ss]) rfl ?_
      simp (disch := first | omega | rfl) [ev0, g_P_check_tale, a1 h]
    rw [this]; rfl
  | b h h2 =>
    have : φ_P_check_tale [netD n ps, glD last rs ss] = .ex 2 := by
      refine run_el (φ_P_check_tale [netD n ps, glD last rs ss]) rfl ?_
      simp (disch := first | omega | rfl) [ev0, g_P_check_tale, a2 h, b1 h2]
    rw [this]; rfl
  | c h h2 h3 =>
    have : φ_P_check_tale [netD n ps, glD last rs ss] = .ex 3 := by
      refine run_el (φ_P_check_tale [netD n ps, glD last rs ss]) rfl ?_
      simp (disch := first | omega | rfl) [ev0, g_P_check_tale, a2 h, b2 h2, c1 h3]
    rw [this]; rfl
  | d h h2 h3 h4 =>
    obtain ⟨d1, d2⟩ := two (mosts_chk (ss := ss) ok hl (out_of h2).1 (out_of h2).2 sm.rl sm.r (pl_of h))
    have : φ_P_check_tale [netD n ps, glD last rs ss] = .ex 4 := by
      refine run_el (φ_P_check_tale [netD n ps, glD last rs ss]) rfl ?_
      simp (disch := first | omega | rfl) [ev0, g_P_check_tale, a2 h, b2 h2, c2 h3, d1 h4]
    rw [this]; rfl
  | e h h2 h3 h4 =>
    obtain ⟨d1, d2⟩ := two (mosts_chk (ss := ss) ok hl (out_of h2).1 (out_of h2).2 sm.rl sm.r (pl_of h))
    have : φ_P_check_tale [netD n ps, glD last rs ss] = .ok .fz .non := by
      refine run_el (φ_P_check_tale [netD n ps, glD last rs ss]) rfl ?_
      simp (disch := first | omega | rfl) [ev0, g_P_check_tale, a2 h, b2 h2, c2 h3, d2 h4]
    rw [this]; rfl
end
theorem ne_nil {l : List D} (h : plL 59 l = true) : neD (.lst l) (.lst []) = some (.fz, .bl (decide (l ≠ []))) := by
  rw [neD_pl (by simp [pl, h]) (by simp [pl, plL])]
  congr 3
  rw [decide_eq_decide]; simp
theorem gr_pl (rs : List GR) : plL 57 (rs.map grD) = true := plL_iff.2 fun d hd => by
  obtain ⟨r, _, rfl⟩ := List.mem_map.1 hd
  simp [grD, pl, plL]
theorem gs_pl {ss : List GS} (h : ∀ x ∈ ss, SmS x) : plL 57 (ss.map gsD) = true := plL_iff.2 fun d hd => by
  obtain ⟨x, hx, rfl⟩ := List.mem_map.1 hd
  have := (h x hx).2.2
  simp [nmOk] at this
  simp [gsD, pl, plL, this.1.1]
theorem gr_pl9 (rs : List GR) : plL 59 (rs.map grD) = true := plL_iff.2 fun d hd => by
  obtain ⟨r, _, rfl⟩ := List.mem_map.1 hd
  simp [grD, pl, plL]
theorem gs_pl9 {ss : List GS} (h : ∀ x ∈ ss, SmS x) : plL 59 (ss.map gsD) = true := plL_iff.2 fun d hd => by
  obtain ⟨x, hx, rfl⟩ := List.mem_map.1 hd
  have := (h x hx).2.2
  simp [nmOk] at this
  simp [gsD, pl, plL, this.1.1]
theorem fil_ne {α : Type} {f : α → D} {p : α → Bool} {l : List α} : ((l.filter p).map f ≠ []) ↔ ∃ x ∈ l, p x = true := by
  constructor
  · intro h
    obtain ⟨x, hx⟩ := List.exists_mem_of_ne_nil _ (fun z => h (by rw [z]; rfl) : l.filter p ≠ [])
    exact ⟨x, (List.mem_filter.1 hx).1, (List.mem_filter.1 hx).2⟩
  · rintro ⟨x, hx, hp⟩ z
    rw [List.map_eq_nil_iff] at z
    have : x ∈ l.filter p := List.mem_filter.2 ⟨hx, hp⟩
    rw [z] at this
    cases this
section
variable {n : Nat} {last : Int} {ps : List Path} {rs : List GR} {ss : List GS}
theorem gl2 {r : GR} : slD (grD r) none (some 2) = some (.fz, .tup [.int r.1, .int r.2.1]) := (rfl)
theorem gl3 {r : GR} : slD (grD r) none (some 3) = some (.fz, k3G r) := (rfl)
theorem pl2 {p : Path} : slD (pathD p) none (some 2) = some (.fz, pairD p) := (rfl)
theorem pr_mem {a b : Int} : D.tup [.int a, .int b] ∈ ps.map pairD ↔ (a, b) ∈ ps.map gE := by
  simp only [List.mem_map, pairD, gE]
  constructor
  · rintro ⟨p, hp, e⟩; simp at e; exact ⟨p, hp, by simp [e]⟩
  · rintro ⟨p, hp, e⟩; simp at e; exact ⟨p, hp, by simp [e]⟩
noncomputable def fR (ps : List Path) (r : GR) : Bool := decide (D.tup [.int r.1, .int r.2.1] ∉ ps.map pairD)
noncomputable def fS (n : Nat) (x : GS) : Bool := decide (x.1 < 0) || decide ((n : Int) ≤ x.1)
theorem fR_t {r : GR} : fR ps r = true ↔ (r.1, r.2.1) ∉ ps.map gE := by
  rw [fR, decide_eq_true_eq, pr_mem]
theorem fS_t {x : GS} : fS n x = true ↔ ¬ (0 ≤ x.1 ∧ x.1 < n) := by
  simp [fS]; omega
theorem no_place_ok (hl : ps.length ≤ 200) (hrl : rs.length < 4000) (hsl : ss.length < 4000) (sx : ∀ x ∈ ss, SmS x) : ∀ P : R → Prop, (NoPl n ps rs ss → P (.ok .fz (.bl true))) → (¬ NoPl n ps rs ss → P (.ok .fz (.bl false))) → P (φ_L_no_place [netD n ps, glD last rs ss]) := fun P ok1 ok2 => by
  have hc := compO_map (b := bName 0) (e := eSl (varR 0) oNo (oSome (conR (.int 2)))) (ev := [none]) (enc := pathD) (l := ps) pairD (by simp [LIM]; omega) (fun r _ => by
    refine ⟨_, rfl, .fz, by simp, ?_⟩
    simp [pl2])
  have hr := compO_fm (b := bName 1) (c := eOp notInD (eSl (varR 1) oNo (oSome (conR (.int 2)))) (varR 0)) (e := varR 1) (ev := [some (.fz, .lst (ps.map pairD)), none]) (enc := grD) (l := rs) (fR ps) grD (by simp [LIM]; omega) (fun r _ => by
    have hin : notInD (.tup [.int r.1, .int r.2.1]) (.lst (ps.map pairD)) = some (.fz, .bl (fR ps r)) := notInD_pl rfl (by simp [pl, plL]) (pairs_pl ps)
    refine ⟨_, rfl, ⟨.fz, ?_⟩, fun _ => ⟨.fz, by simp, by simp⟩⟩
    simp only [eOp_eq, eSl_eq, varR_eq]
    simp (disch := first | omega | rfl) [gl2, hin])
  have hs := compO_fm (b := bName 1) (c := eOr (eOp ltD (eOp idxD (varR 1) (conR (.int 0))) (conR (.int 0))) (eOp geD (eOp idxD (varR 1) (conR (.int 0))) (eOp idxD (varR 0) (conR (.int 0))))) (e := varR 1) (ev := [some (.fz, netD n ps), none]) (enc := gsD) (l := ss) (fS n) gsD (by simp [LIM]; omega) (fun x _ => by
    have e0 : idxD (gsD x) (.int 0) = some (.fz, .int x.1) := by simp [gsD]
    refine ⟨_, rfl, ⟨.fz, ?_⟩, fun _ => ⟨.fz, by simp, by simp⟩⟩
    by_cases b : x.1 < 0
    · simp (disch := first | omega | rfl) [e0, net_n, b, fS]
    · simp (disch := first | omega | rfl) [e0, net_n, b, fS])
  have q1 : plL 59 ((rs.filter (fR ps)).map grD) = true := gr_pl9 _
  have q2 : plL 59 ((ss.filter (fS n)).map gsD) = true := gs_pl9 fun x hx => sx x (List.mem_filter.1 hx).1
  have f1 := fil_ne (f := grD) (p := fR ps) (l := rs)
  have f2 := fil_ne (f := gsD) (p := fS n) (l := ss)
  refine run_el (motive := P) (φ_L_no_place [netD n ps, glD last rs ss]) rfl ?_
  by_cases c1 : ∃ r ∈ rs, (r.1, r.2.1) ∉ ps.map gE
  · have n1 := ne_nil q1
    rw [decide_eq_true (f1.2 (by obtain ⟨r, hr, z⟩ := c1; exact ⟨r, hr, fR_t.2 z⟩))] at n1
    simp (disch := first | omega | rfl) [ev0, g_L_no_place, net_ps, hc, gt_runs, hr, n1]
    exact ok1 (.inl c1)
  · have n1 := ne_nil q1
    rw [decide_eq_false (fun z => c1 (by obtain ⟨r, hr, z⟩ := f1.1 z; exact ⟨r, hr, fR_t.1 z⟩))] at n1
    by_cases c2 : ∃ x ∈ ss, ¬ (0 ≤ x.1 ∧ x.1 < n)
    · have n2 := ne_nil q2
      rw [decide_eq_true (f2.2 (by obtain ⟨r, hr, z⟩ := c2; exact ⟨r, hr, fS_t.2 z⟩))] at n2
      simp (disch := first | omega | rfl) [ev0, g_L_no_place, net_ps, hc, gt_runs, hr, n1, g_L_no_place_j1, gt_signs, hs, n2]
      exact ok1 (.inr c2)
    · have n2 := ne_nil q2
      rw [decide_eq_false (fun z => c2 (by obtain ⟨r, hr, z⟩ := f2.1 z; exact ⟨r, hr, fS_t.1 z⟩))] at n2
      simp (disch := first | omega | rfl) [ev0, g_L_no_place, net_ps, hc, gt_runs, hr, n1, g_L_no_place_j1, gt_signs, hs, n2]
      exact ok2 fun z => z.elim c1 c2
end
section
variable {n : Nat} {last : Int} {ps : List Path} {rs : List GR} {ss : List GS}
noncomputable def fO (last : Int) (x : GS) : Bool := decide (x.2.1 < 0) || decide (last < x.2.1)
theorem fO_t {x : GS} : fO last x = true ↔ OutS last x := by simp [fO, OutS]; omega
noncomputable def InvLO (n : Nat) (ps : List Path) (last : Int) (t : D) (rs xs : List GR) (ev : Ev) : Prop := ∃ pre x2, ev = [some (.fz, netD n ps), some (.fz, t), x2] ∧ rs = pre ++ xs ∧ ∀ r ∈ pre, ¬ OutR last r
theorem out_ok (hsl : ss.length < 4000) (sx : ∀ x ∈ ss, SmS x) : ∀ P : R → Prop, (OutT last rs ss → P (.ok .fz (.bl true))) → (¬ OutT last rs ss → P (.ok .fz (.bl false))) → P (φ_L_out [netD n ps, glD last rs ss]) := fun P ok1 ok2 => by
  have hs := compO_fm (b := bName 1) (c := eOr (eOp ltD (eOp idxD (varR 1) (conR (.int 1))) (conR (.int 0))) (eOp gtD (eOp idxD (varR 1) (conR (.int 1))) (eOp idxD (varR 0) (conR (.int 0))))) (e := varR 1) (ev := [some (.fz, glD last rs ss), none]) (enc := gsD) (l := ss) (fO last) gsD (by simp [LIM]; omega) (fun x _ => by
    have e0 : idxD (gsD x) (.int 1) = some (.fz, .int x.2.1) := by simp [gsD]
    refine ⟨_, rfl, ⟨.fz, ?_⟩, fun _ => ⟨.fz, by simp, by simp⟩⟩
    by_cases b : x.2.1 < 0
    · simp (disch := first | omega | rfl) [e0, gt_last, b, fO]
    · simp (disch := first | omega | rfl) [e0, gt_last, b, fO])
  have q2 : plL 59 ((ss.filter (fO last)).map gsD) = true := gs_pl9 fun x hx => sx x (List.mem_filter.1 hx).1
  have f2 := fil_ne (f := gsD) (p := fO last) (l := ss)
  refine run_el (motive := P) (φ_L_out [netD n ps, glD last rs ss]) rfl ?_
  obtain ⟨gg, hgg⟩ : ∃ gg, gg = g_L_out_b1 := ⟨_, rfl⟩
  by_cases c1 : last < 0
  · simp (disch := first | omega | rfl) [ev0, g_L_out, gt_last, c1]
    exact ok1 (.inl (by omega))
  · by_cases c2 : 60 < last
    · simp (disch := first | omega | rfl) [ev0, g_L_out, gt_last, c1, c2]
      exact ok1 (.inl (by omega))
    · simp (disch := first | omega | rfl) [ev0, g_L_out, gt_last, c1, c2, g_L_out_j2, gt_runs]
      rw [← hgg]
      refine wp_forM (InvLO n ps last (glD last rs ss) rs) ?_ ?_ ⟨[], _, rfl, rfl, by simp⟩
      · rintro r xs _ - ⟨pre, x2, rfl, hp, hg⟩
        have hr : r ∈ rs := by rw [hp]; simp
        refine ⟨_, rfl, ?_⟩
        by_cases b1 : r.2.2.1 < 0
        · simp (disch := first | omega | rfl) [hgg, g_L_out_b1, grD, b1]
          exact ok1 (.inr (.inl ⟨r, hr, fun z => by have := z.1; omega⟩))
        · by_cases b2 : r.2.2.2 ≤ r.2.2.1
          · simp (disch := first | omega | rfl) [hgg, g_L_out_b1, grD, b1, b2]
            exact ok1 (.inr (.inl ⟨r, hr, fun z => by have := z.2.1; omega⟩))
          · by_cases b3 : last < r.2.2.2
            · simp (disch := first | omega | rfl) [hgg, g_L_out_b1, grD, b1, b2, b3, gt_last]
              exact ok1 (.inr (.inl ⟨r, hr, fun z => by have := z.2.2; omega⟩))
            · simp (disch := first | omega | rfl) [hgg, g_L_out_b1, grD, b1, b2, b3, gt_last]
              exact ⟨pre ++ [r], _, rfl, by simp [hp], fun q hq => by
                rcases List.mem_append.1 hq with hq | hq
                · exact hg q hq
                · simp at hq; rw [hq]; exact fun z => z ⟨by omega, by omega, by omega⟩⟩
      · rintro _ ⟨pre, x2, rfl, hp, hg⟩
        rw [List.append_nil] at hp
        subst hp
        have nn := ne_nil q2
        by_cases d : ∃ x ∈ ss, OutS last x
        · rw [decide_eq_true (f2.2 (by obtain ⟨r, hr, z⟩ := d; exact ⟨r, hr, fO_t.2 z⟩))] at nn
          simp (disch := first | omega | rfl) [g_L_out_j1, gt_signs, hs, nn]
          exact ok1 (.inr (.inr d))
        · rw [decide_eq_false (fun z => d (by obtain ⟨r, hr, z⟩ := f2.1 z; exact ⟨r, hr, fO_t.1 z⟩))] at nn
          simp (disch := first | omega | rfl) [g_L_out_j1, gt_signs, hs, nn]
          refine ok2 ?_
          rintro (z | ⟨r, hr, z⟩ | z)
          · exact z ⟨by omega, by omega⟩
          · exact hg r hr z
          · exact d z
theorem double_ok (hrl : rs.length < 4000) (hsl : ss.length < 4000) : ∀ P : R → Prop, (Dbl rs ss → P (.ok .fz (.bl true))) → (¬ Dbl rs ss → P (.ok .fz (.bl false))) → P (φ_L_double [netD n ps, glD last rs ss]) := fun P ok1 ok2 => by
  have hc := compO_map (b := bName 0) (e := eSl (varR 0) oNo (oSome (conR (.int 3)))) (ev := [none]) (enc := grD) (l := rs) k3G (by simp [LIM]; omega) (fun r _ => by
    refine ⟨_, rfl, .fz, by simp, ?_⟩
    simp [gl3])
  obtain ⟨a, ha, l1⟩ := set_r hrl
  obtain ⟨b, hb, l2⟩ := set_s hsl
  refine run_el (motive := P) (φ_L_double [netD n ps, glD last rs ss]) rfl ?_
  by_cases d1 : a < rs.length
  · simp (disch := first | omega | rfl) [ev0, g_L_double, gt_runs, hc, l1, d1]
    exact ok1 (.inl (ha.1 d1))
  · by_cases d2 : b < ss.length
    · simp (disch := first | omega | rfl) [ev0, g_L_double, gt_runs, hc, l1, d1, gt_signs, l2, d2]
      exact ok1 (.inr (hb.1 d2))
    · simp (disch := first | omega | rfl) [ev0, g_L_double, gt_runs, hc, l1, d1, gt_signs, l2, d2]
      refine ok2 ?_
      rintro (z | z)
      · exact d1 (ha.2 z)
      · exact d2 (hb.2 z)
noncomputable def LateP (last : Int) (rs : List GR) (p : Path) : Prop := (∃ m, p.2.2 = some m ∧ ∃ r ∈ rs, gE p = (r.1, r.2.1) ∧ r.2.2.1 + m < r.2.2.2) ∨ MissP last rs p
theorem late_iff : Late ps last rs ↔ ∃ p ∈ ps, LateP last rs p := by
  constructor
  · rintro (⟨r, hr, p, hp, m, h1, h2, h3⟩ | ⟨p, hp, h⟩)
    · exact ⟨p, hp, .inl ⟨m, h1, r, hr, h2, h3⟩⟩
    · exact ⟨p, hp, .inr h⟩
  · rintro ⟨p, hp, ⟨m, h1, r, hr, h2, h3⟩ | h⟩
    · exact .inl ⟨r, hr, p, hp, m, h1, h2, h3⟩
    · exact .inr ⟨p, hp, h⟩
noncomputable def InvA1 (n : Nat) (ps : List Path) (last : Int) (t : D) (s g : Nat) (m : Int) (rs xs : List GR) (ev : Ev) : Prop := ∃ pre L x6 x7, ev = [some (.fz, netD n ps), some (.fz, t), some (.fz, .int s), some (.fz, .int g), some (.fz, .int m), some (.ow, .lst ((L : List Int).map D.int)), x6, x7] ∧ rs = pre ++ xs ∧ L.length ≤ pre.length ∧ (∀ l, l ∈ L ↔ ((s : Int), (g : Int), l) ∈ pre.map gkey) ∧ ∀ r ∈ pre, ((s : Int), (g : Int)) = (r.1, r.2.1) → ¬ r.2.2.1 + m < r.2.2.2
noncomputable def InvA2 (n : Nat) (ps : List Path) (last : Int) (t : D) (s g : Nat) (m : Int) (L : List Int) (xs : List Nat) (ev : Ev) : Prop := ∃ pre x6 x7, ev = [some (.fz, netD n ps), some (.fz, t), some (.fz, .int s), some (.fz, .int g), some (.fz, .int m), some (.ow, .lst (L.map D.int)), x6, x7] ∧ List.range (last - m + 1).toNat = pre ++ xs ∧ ∀ l ∈ pre, ((l : Nat) : Int) ∈ L
noncomputable def InvA3 (n : Nat) (ps : List Path) (last : Int) (t : D) (rs : List GR) (xs : List Path) (ev : Ev) : Prop := ∃ pre x2 x3 x4 x5 x6 x7, ev = [some (.fz, netD n ps), some (.fz, t), x2, x3, x4, x5, x6, x7] ∧ ps = pre ++ xs ∧ ∀ p ∈ pre, ¬ LateP last rs p
theorem ints_pl (L : List Int) : plL 60 (L.map D.int) = true := plL_iff.2 fun d hd => by
  obtain ⟨x, _, rfl⟩ := List.mem_map.1 hd
  simp [pl]
theorem late_ok (h0 : 0 ≤ last) (hlast : last ≤ 60) (hrl : rs.length < 4000) (hm1 : ∀ p ∈ ps, ∀ m, p.2.2 = some m → 1 ≤ m) : ∀ P : R → Prop, (Late ps last rs → P (.ok .fz (.bl true))) → (¬ Late ps last rs → P (.ok .fz (.bl false))) → P (φ_L_late [netD n ps, glD last rs ss]) := fun P ok1 ok2 => by
  refine run_el (motive := P) (φ_L_late [netD n ps, glD last rs ss]) rfl ?_
  obtain ⟨g1, hg1⟩ : ∃ gg, gg = g_L_late_b1 := ⟨_, rfl⟩
  obtain ⟨g2, hg2⟩ : ∃ gg, gg = g_L_late_b2 := ⟨_, rfl⟩
  simp (disch := first | omega | rfl) [ev0, g_L_late, net_ps]
  refine wp_forM (InvA3 n ps last (glD last rs ss) rs) ?_ ?_ ⟨[], _, _, _, _, _, _, rfl, rfl, by simp⟩
  · rintro ⟨s, g, o⟩ xs _ - ⟨pre, x2, x3, x4, x5, x6, x7, rfl, hp, hg⟩
    have hpm : (s, g, o) ∈ ps := by rw [hp]; simp
    have nx : ∀ x2 x3 x4 x5 x6 x7, ¬ LateP last rs (s, g, o) → InvA3 n ps last (glD last rs ss) rs xs [some (.fz, netD n ps), some (.fz, glD last rs ss), x2, x3, x4, x5, x6, x7] := fun _ _ _ _ _ _ z => ⟨pre ++ [(s, g, o)], _, _, _, _, _, _, rfl, by simp [hp], fun q hq => by
      rcases List.mem_append.1 hq with hq | hq
      · exact hg q hq
      · simp at hq; rw [hq]; exact z⟩
    refine ⟨_, rfl, ?_⟩
    cases o with
    | none =>
      simp (disch := first | omega | rfl) [g_L_late_b3]
      refine nx _ _ _ _ _ _ ?_
      rintro (⟨m, e, _⟩ | ⟨m, e, _⟩) <;> cases e
    | some m =>
      have m1 := hm1 _ hpm m rfl
      simp (disch := first | omega | rfl) [g_L_late_b3, g_L_late_j2, gt_runs]
      rw [← hg1]
      refine wp_forM (InvA1 n ps last (glD last rs ss) s g m rs) ?_ ?_ ⟨[], [], _, _, rfl, rfl, by simp, by simp, by simp⟩
      · rintro r ys _ - ⟨pre2, L, y6, y7, rfl, hp2, hL, hLm, hLt⟩
        have hr : r ∈ rs := by rw [hp2]; simp
        have len := congrArg List.length hp2
        simp at len
        have ll : L.length < LIM := by simp [LIM]; omega
        have he : eqD (.tup [.int r.1, .int r.2.1]) (.tup [.int s, .int g]) = some (.fz, .bl (decide (((s : Int), (g : Int)) = (r.1, r.2.1)))) := by
          rw [eqD_pl (by simp [pl, plL]) (by simp [pl, plL])]
          congr 3
          rw [decide_eq_decide]
          simp
          exact ⟨fun z => ⟨z.1.symm, z.2.symm⟩, fun z => ⟨z.1.symm, z.2.symm⟩⟩
        have r2 : idxD (grD r) (.int 2) = some (.fz, .int r.2.2.1) := by simp [grD]
        have r3 : idxD (grD r) (.int 3) = some (.fz, .int r.2.2.2) := by simp [grD]
        refine ⟨_, rfl, ?_⟩
        by_cases b : ((s : Int), (g : Int)) = (r.1, r.2.1)
        · rw [decide_eq_true b] at he
          by_cases b2 : r.2.2.1 + m < r.2.2.2
          · simp (disch := first | omega | rfl) [hg1, g_L_late_b1, gl2, he, r2, r3, ll, b2]
            exact ok1 (late_iff.2 ⟨_, hpm, .inl ⟨m, rfl, r, hr, b, b2⟩⟩)
          · simp (disch := first | omega | rfl) [hg1, g_L_late_b1, gl2, he, r2, r3, ll, b2]
            refine ⟨pre2 ++ [r], L ++ [r.2.2.1], some (.fz, grD r), y7, by simp, by simp [hp2], by simp; omega, fun l => ?_, fun q hq => ?_⟩
            · rw [List.mem_append, hLm l, List.map_append, List.mem_append]
              simp only [List.mem_singleton, List.map_cons, List.map_nil, gkey]
              simp only [Prod.mk.injEq] at b ⊢
              exact or_congr Iff.rfl ⟨fun z => ⟨b.1, b.2, z⟩, fun z => z.2.2⟩
            · rcases List.mem_append.1 hq with hq | hq
              · exact hLt q hq
              · simp at hq; rw [hq]; exact fun _ => b2
        · rw [decide_eq_false b] at he
          simp (disch := first | omega | rfl) [hg1, g_L_late_b1, gl2, he]
          refine ⟨pre2 ++ [r], L, _, _, rfl, by simp [hp2], by simp; omega, fun l => ?_, fun q hq => ?_⟩
          · rw [hLm l, List.map_append, List.mem_append]
            simp only [List.map_cons, List.map_nil, List.mem_singleton, gkey]
            refine ⟨.inl, fun z => z.resolve_right fun y => b ?_⟩
            simp only [Prod.mk.injEq] at y ⊢
            exact ⟨y.1, y.2.1⟩
          · rcases List.mem_append.1 hq with hq | hq
            · exact hLt q hq
            · simp at hq; rw [hq]; exact fun z => absurd z b
      · rintro _ ⟨pre2, L, y6, y7, rfl, hp2, hL, hLm, hLt⟩
        rw [List.append_nil] at hp2
        subst hp2
        simp (disch := first | omega | rfl) [g_L_late_j1, gt_last]
        rw [rangeD_eq, ← hg2]
        refine wp_forM1 (InvA2 n ps last (glD last rs ss) s g m L) ?_ ?_ ⟨[], _, _, rfl, rfl, by simp⟩
        · rintro l zs _ - ⟨pre3, z6, z7, rfl, hp3, hh⟩
          have hl : l < (last - m + 1 : Int).toNat := by
            have : l ∈ List.range (last - m + 1 : Int).toNat := by rw [hp3]; simp
            simpa using this
          have hin : notInD (.int l) (.lst (L.map D.int)) = some (.fz, .bl (decide (D.int l ∉ L.map D.int))) := notInD_pl rfl (by simp [pl]) (ints_pl L)
          refine ⟨_, rfl, ?_⟩
          simp only [Int.zero_add]
          by_cases b : (l : Int) ∈ L
          · rw [decide_eq_false (fun z => z (List.mem_map.2 ⟨_, b, rfl⟩))] at hin
            simp (disch := first | omega | rfl) [hg2, g_L_late_b2, hin]
            exact ⟨pre3 ++ [l], _, _, rfl, by simp [hp3], fun q hq => by
              rcases List.mem_append.1 hq with hq | hq
              · exact hh q hq
              · simp at hq; rw [hq]; exact b⟩
          · rw [decide_eq_true (show D.int l ∉ L.map D.int from fun z => b (by obtain ⟨x, hx, e⟩ := List.mem_map.1 z; cases e; exact hx))] at hin
            simp (disch := first | omega | rfl) [hg2, g_L_late_b2, hin]
            exact ok1 (late_iff.2 ⟨_, hpm, .inr ⟨m, rfl, l, by omega, fun z => b ((hLm _).2 z)⟩⟩)
        · rintro _ ⟨pre3, z6, z7, rfl, hp3, hh⟩
          rw [List.append_nil] at hp3
          simp (disch := first | omega | rfl) []
          refine nx _ _ _ _ _ _ ?_
          rintro (⟨m', e, r, hr, h1, h2⟩ | ⟨m', e, l, hlm, z⟩)
          · cases e; exact hLt r hr h1 h2
          · cases e; exact z ((hLm _).1 (hh l (by rw [← hp3, List.mem_range]; omega)))
  · rintro _ ⟨pre, x2, x3, x4, x5, x6, x7, rfl, hp, hg⟩
    rw [List.append_nil] at hp
    subst hp
    simp (disch := first | omega | rfl) []
    exact ok2 fun z => by obtain ⟨p, hp, h⟩ := late_iff.1 z; exact hg p hp h
theorem due_ok {k : Nat} (ok : NetOk n ps) (hl : ps.length ≤ 200) (sm : SmT last rs ss) (due : Due n ps last rs ss k) : φ_L_due [netD n ps, glD last rs ss] = .ok .fz (.int k) := by
  obtain ⟨a1, a2⟩ := two (no_place_ok (n := n) (last := last) hl sm.rl sm.sl sm.x)
  obtain ⟨b1, b2⟩ := two (out_ok (n := n) (ps := ps) (last := last) (rs := rs) sm.sl sm.x)
  obtain ⟨c1, c2⟩ := two (double_ok (n := n) (ps := ps) (last := last) sm.rl sm.sl)
  refine run_el (φ_L_due [netD n ps, glD last rs ss]) rfl ?_
  cases due with
  | a h => simp (disch := first | omega | rfl) [ev0, g_L_due, a1 h]
  | b h h2 => simp (disch := first | omega | rfl) [ev0, g_L_due, a2 h, g_L_due_j3, b1 h2]
  | c h h2 h3 => simp (disch := first | omega | rfl) [ev0, g_L_due, a2 h, g_L_due_j3, b2 h2, g_L_due_j2, c1 h3]
  | d h h2 h3 h4 =>
    obtain ⟨d1, d2⟩ := two (late_ok (n := n) (ss := ss) (out_of h2).1 (out_of h2).2 sm.rl fun p hp m e => (ok.m p hp m e).1)
    simp (disch := first | omega | rfl) [ev0, g_L_due, a2 h, g_L_due_j3, b2 h2, g_L_due_j2, c2 h3, g_L_due_j1, d1 h4]
  | e h h2 h3 h4 =>
    obtain ⟨d1, d2⟩ := two (late_ok (n := n) (ss := ss) (out_of h2).1 (out_of h2).2 sm.rl fun p hp m e => (ok.m p hp m e).1)
    simp (disch := first | omega | rfl) [ev0, g_L_due, a2 h, g_L_due_j3, b2 h2, g_L_due_j2, c2 h3, g_L_due_j1, d2 h4]
end
noncomputable def Bd (x : Int) : Prop := -(3 * 10 ^ 58) ≤ x ∧ x ≤ 3 * 10 ^ 58
noncomputable def BR (r : GR) : Prop := Bd r.1 ∧ Bd r.2.1 ∧ Bd r.2.2.1 ∧ Bd r.2.2.2
noncomputable def BS (x : GS) : Prop := Bd x.1 ∧ Bd x.2.1 ∧ nmOk x.2.2 = true
theorem Bd.sm {x : Int} (h : Bd x) : Sm x := by unfold Bd at h; unfold Sm; omega
theorem pkD {α : Type} (f : α → D) (P : α → Prop) : ∀ (xs : List α) (i : Int), 0 ≤ i → i < xs.length → (∀ x ∈ xs, P x) → ∃ x, P x ∧ atI (xs.map f) i = some (f x) := fun xs i h0 h1 hp => by
  obtain ⟨k, rfl⟩ : ∃ k : Nat, i = k := ⟨i.toNat, by omega⟩
  have hk : k < xs.length := by omega
  exact ⟨xs[k], hp _ (List.getElem_mem hk), atI_of (by simp [hk])⟩
theorem put_ok {l : List D} {d : D} {at_ : Int} (hl : l.length < 4000) : ∃ k : Nat, φ_L_put [.lst l, d, .int at_] = .ok .ow (.lst (l.take k ++ [d] ++ l.drop k)) := by
  obtain ⟨k, ek, hk⟩ := emod_nat at_ (n := l.length + 1) (by omega)
  have ek : at_ % ((l.length : Int) + 1) = k := by rw [← ek]; simp
  refine ⟨k, ?_⟩
  refine run_el (φ_L_put [.lst l, d, .int at_]) rfl ?_
  have l1 : k + 1 ≤ LIM := by simp [LIM]; omega
  have l2 : k + 1 + (l.length - k) ≤ LIM := by simp [LIM]; omega
  simp (disch := first | omega | rfl) [ev0, g_L_put, ek, cut_upto, cut_from, l1, l2]
section
variable {n : Nat} {nu last : Int} {ps : List Path} {rs : List GR} {ss : List GS}
theorem paths_pl9 (ps : List Path) : plL 59 (ps.map pathD) = true := plL_iff.2 fun d hd => by
  obtain ⟨⟨s, g, o⟩, _, rfl⟩ := List.mem_map.1 hd
  cases o <;> simp [pathD, pl, plL]
noncomputable def SQ (r : R) : Prop := ∃ q, BS q ∧ r = .ok .fz (gsD q)
noncomputable def WQ (r : R) : Prop := ∃ q, BR q ∧ r = .ok .fz (grD q)
theorem wr_j1 {far left house a b : Int} {o : D} {t : D} (n1 : 1 ≤ n) (n8 : n ≤ 8) (h0 : 0 ≤ nu) (h1 : nu < 2 ^ 31) (hf : Bd far) (hl : 0 ≤ left ∧ left ≤ 2 * 10 ^ 58) (hh : 0 ≤ house ∧ house < 9) (ha : 0 ≤ a ∧ a < 9) (hb : 0 ≤ b ∧ b < 9) : Wp (g_L_wrong_run_j1 [some (.fz, .int nu), some (.fz, netD n ps), some (.fz, t), some (.fz, .int last), some (.fz, .int far), some (.fz, .int left), some (.fz, .int house), some (.fz, .tup [.int a, .int b, o]), none, none]) (runQ WQ) := by
  have n0 : (0 : Int) < n := by omega
  have hf' := hf
  unfold Bd at hf
  have m1 := Int.emod_nonneg (nu / 9) (b := n) (by omega)
  have m2 := Int.emod_lt_of_pos (nu / 9) (b := n) (by omega)
  have m3 := Int.emod_nonneg (house + 1) (b := n) (by omega)
  have m4 := Int.emod_lt_of_pos (house + 1) (b := n) (by omega)
  obtain ⟨q, hq, e⟩ := pkD grD BR [(house, n, left, left + 1), (-1 - nu / 9 % n, house, left, left + 1), (house, house, left, left + 1), (house, -1 - nu / 9 % n, left, left + 1), (10 ^ 30 + house, house, left, left + 1), (house, 10 ^ 58 + nu, left, left + 1), (a, b, -1 - nu / 9 % 2, left), (a, b, left, left), (a, b, left, far), (a, b, left, left - 1 - nu / 9 % 3), (b, a, left, left + 1), (house, (house + 1) % n, left, left + 1)] (nu / 3 % 12) (by omega) (by simp; omega) (by
    simp only [List.mem_cons, List.not_mem_nil, or_false]
    rintro x (rfl | rfl | rfl | rfl | rfl | rfl | rfl | rfl | rfl | rfl | rfl | rfl) <;> refine ⟨?_, ?_, ?_, ?_⟩ <;> simp only [Bd] <;> omega)
  simp [grD] at e
  simp (disch := first | omega | rfl) [g_L_wrong_run_j1, net_n, modD_ok n0, LIM, e]
  exact ⟨q, hq, rfl⟩
theorem wrong_run_ok (ok : NetOk n ps) (h0 : 0 ≤ nu) (h1 : nu < 2 ^ 31) (hlo : -10 ^ 58 ≤ last) (hhi : last ≤ 10 ^ 58) : ∃ q, BR q ∧ φ_L_wrong_run [.int nu, netD n ps, glD last rs ss] = .ok .fz (grD q) := by
  have n1 := ok.n1
  have n8 := ok.n8
  have n0 : (0 : Int) < n := by omega
  obtain ⟨far, hf, ef⟩ := pkD D.int Bd [last + 1, 10 ^ 58 + nu] (nu / 7 % 2) (by omega) (by simp; omega) (by
    simp only [List.mem_cons, List.not_mem_nil, or_false]
    rintro x (rfl | rfl) <;> simp only [Bd] <;> omega)
  simp at ef
  have x0 : (0 : Int) < max 1 (last + 1) := by omega
  have m1 := Int.emod_nonneg (nu / 14) (b := max 1 (last + 1)) (by omega)
  have m2 := Int.emod_lt_of_pos (nu / 14) (b := max 1 (last + 1)) (by omega)
  have m3 := Int.emod_nonneg nu (b := n) (by omega)
  have m4 := Int.emod_lt_of_pos nu (b := n) (by omega)
  have hn := ne_nil (paths_pl9 ps)
  refine run_el (motive := WQ) (φ_L_wrong_run [.int nu, netD n ps, glD last rs ss]) rfl ?_
  cases ps with
  | nil =>
    simp only [List.map_nil, ne_eq, not_true, decide_false] at hn
    simp (disch := first | omega | rfl) [ev0, g_L_wrong_run, gt_last, ef, modD_ok x0, net_n, modD_ok n0, net_ps, hn]
    exact wr_j1 n1 n8 h0 h1 hf (by omega) (by omega) (by omega) (by omega)
  | cons p ps =>
    have hn : neD (.lst ((p :: ps).map pathD)) (.lst []) = some (.fz, .bl true) := by rw [hn]; simp
    obtain ⟨j, ej, hj⟩ := emod_nat (nu / 100) (n := (p :: ps).length) (by simp)
    have hat : atI ((p :: ps).map pathD) (j : Int) = some (pathD (p :: ps)[j]) := atI_of (by rw [List.getElem?_map, List.getElem?_eq_getElem hj]; rfl)
    have hm := List.getElem_mem hj
    generalize (p :: ps)[j] = q at hat hm
    have s1 := ok.s _ hm
    have g1 := ok.g _ hm
    have l0 : (0 : Int) < ((p :: ps).length : Int) := by omega
    generalize p :: ps = ps' at *
    simp (disch := first | omega | rfl) [ev0, g_L_wrong_run, gt_last, ef, modD_ok x0, net_n, modD_ok n0, net_ps, hn, modD_ok l0, ej, hat]
    exact wr_j1 n1 n8 h0 h1 hf (by omega) (by omega) (by omega) (by omega)
theorem wrong_sign_ok (ok : NetOk n ps) (h0 : 0 ≤ nu) (h1 : nu < 2 ^ 31) (hlo : -10 ^ 58 ≤ last) (hhi : last ≤ 10 ^ 58) : ∃ q, BS q ∧ φ_L_wrong_sign [.int nu, netD n ps, glD last rs ss] = .ok .fz (gsD q) := by
  have n1 := ok.n1
  have n8 := ok.n8
  have n0 : (0 : Int) < n := by omega
  obtain ⟨far, ⟨f1, f2⟩, ef⟩ := pkD D.int (fun x => 1 ≤ x ∧ x ≤ 10 ^ 58 + 2 ^ 31) [1, 10 ^ 58 + nu] (nu / 7 % 2) (by omega) (by simp; omega) (by
    simp only [List.mem_cons, List.not_mem_nil, or_false]
    rintro x (rfl | rfl) <;> omega)
  simp at ef
  have x0 : (0 : Int) < max 1 (last + 1) := by omega
  have m1 := Int.emod_nonneg (nu / 5) (b := max 1 (last + 1)) (by omega)
  have m2 := Int.emod_lt_of_pos (nu / 5) (b := max 1 (last + 1)) (by omega)
  have m3 := Int.emod_nonneg nu (b := n) (by omega)
  have m4 := Int.emod_lt_of_pos nu (b := n) (by omega)
  have na : nmOk (Str.ofString "a") = true := by decide +kernel
  have nb : nmOk (Str.ofString "b") = true := by decide +kernel
  obtain ⟨q, hq, e⟩ := pkD gsD BS [((n : Int) - 1 + far, nu / 5 % max 1 (last + 1), Str.ofString "a"), (-far, nu / 5 % max 1 (last + 1), Str.ofString "b"), (nu % n, -far, Str.ofString "a"), (nu % n, last + far, Str.ofString "b")] (nu / 3 % 4) (by omega) (by simp; omega) (by
    simp only [List.mem_cons, List.not_mem_nil, or_false]
    rintro x (rfl | rfl | rfl | rfl) <;> refine ⟨?_, ?_, ?_⟩ <;> first | exact na | exact nb | (simp only [Bd]; omega))
  simp [gsD] at e
  refine run_el (motive := SQ) (φ_L_wrong_sign [.int nu, netD n ps, glD last rs ss]) rfl ?_
  simp (disch := first | omega | rfl) [ev0, g_L_wrong_sign, gt_last, ef, modD_ok x0, net_n, modD_ok n0, e]
  exact ⟨q, hq, rfl⟩
end
structure Tame (j : Nat) (last : Int) (rs : List GR) (ss : List GS) : Prop where
  lo : -10 ^ 58 ≤ last
  hi : last ≤ 10 ^ 58
  r : ∀ r ∈ rs, BR r
  x : ∀ x ∈ ss, BS x
  rl : rs.length ≤ 1600 + j
  sl : ss.length ≤ 4 + j
noncomputable def FQ (j : Nat) (r : R) : Prop := ∃ last rs ss, r = .ok .fz (glD last rs ss) ∧ Tame j last rs ss
noncomputable abbrev evS (nu : Int) (net t : D) (w last : Int) (k5 : Kd) (X : List D) (k6 : Kd) (Y : List D) (l : Ev) : Ev := some (.fz, .int nu) :: some (.fz, net) :: some (.fz, t) :: some (.fz, .int w) :: some (.fz, .int last) :: some (k5, .lst X) :: some (k6, .lst Y) :: l
noncomputable def Fo (k : Kd) : Prop := k = .fz ∨ k = .ow
theorem ins_ok {α : Type} {P : α → Prop} {l : List α} {q : α} {k : Nat} (h : ∀ x ∈ l, P x) (hq : P q) : ∀ x ∈ l.take k ++ [q] ++ l.drop k, P x := fun x hx => by
  simp at hx
  rcases hx with hx | rfl | hx
  · exact h x (List.mem_of_mem_take hx)
  · exact hq
  · exact h x (List.mem_of_mem_drop hx)
section
variable {n j : Nat} {nu w last : Int} {ps : List Path} {rs : List GR} {ss : List GS} {X Y : List D} {net t : D} {k5 k6 : Kd} {x7 x8 x9 x10 x11 : Option (Kd × D)}
theorem sp_j3 (f5 : Fo k5) (f6 : Fo k6) (hX : X = rs.map grD) (hY : Y = ss.map gsD) (T : Tame j last rs ss) : Wp (g_L_spoiled_j3 (evS nu net t w last k5 X k6 Y [x7, x8, x9, x10, x11])) (runQ (FQ j)) := by
  subst hX hY
  have fin : FQ j (.ok .fz (.tup [.int last, .lst (rs.map grD), .lst (ss.map gsD)])) := ⟨last, rs, ss, rfl, T⟩
  rcases f5 with rfl | rfl <;> rcases f6 with rfl | rfl <;> simp (disch := first | omega | rfl) [g_L_spoiled_j3] <;> exact fin
theorem sp_j4 (f5 : Fo k5) (f6 : Fo k6) (hX : X = rs.map grD) (hY : Y = ss.map gsD) (T : Tame j last rs ss) : Wp (g_L_spoiled_j4 (evS nu net t w last k5 X k6 Y [x7, x8, x9, x10, x11])) (runQ (FQ j)) := by
  obtain ⟨la, ⟨h1, h2⟩, e⟩ := pkD D.int (fun x => -10 ^ 58 ≤ x ∧ x ≤ 10 ^ 58) [-1, 61, 10 ^ 58, -10 ^ 58] (nu / 5 % 4) (by omega) (by simp; omega) (by
    simp only [List.mem_cons, List.not_mem_nil, or_false]
    rintro x (rfl | rfl | rfl | rfl) <;> omega)
  simp at e
  by_cases c : w = 7
  · by_cases d : nu % 5 = 1
    · simp (disch := first | omega | rfl) [g_L_spoiled_j4, c, d, e]
      exact sp_j3 f5 f6 hX hY ⟨h1, h2, T.r, T.x, T.rl, T.sl⟩
    · simp (disch := first | omega | rfl) [g_L_spoiled_j4, c, d]
      exact sp_j3 f5 f6 hX hY T
  · simp (disch := first | omega | rfl) [g_L_spoiled_j4, c]
    exact sp_j3 f5 f6 hX hY T
theorem rput {l : List GR} {q : GR} {a : Int} (h : ∀ x ∈ l, BR x) (hq : BR q) (hl : l.length < 4000) : ∃ l' : List GR, (∀ x ∈ l', BR x) ∧ l'.length = l.length + 1 ∧ φ_L_put [.lst (l.map grD), grD q, .int a] = .ok .ow (.lst (l'.map grD)) := by
  obtain ⟨k, hk⟩ := put_ok (l := l.map grD) (d := grD q) (at_ := a) (by simpa using hl)
  exact ⟨l.take k ++ [q] ++ l.drop k, ins_ok h hq, by simp; omega, by rw [hk]; simp [List.map_take, List.map_drop]⟩
theorem sput {l : List GS} {q : GS} {a : Int} (h : ∀ x ∈ l, BS x) (hq : BS q) (hl : l.length < 4000) : ∃ l' : List GS, (∀ x ∈ l', BS x) ∧ l'.length = l.length + 1 ∧ φ_L_put [.lst (l.map gsD), gsD q, .int a] = .ok .ow (.lst (l'.map gsD)) := by
  obtain ⟨k, hk⟩ := put_ok (l := l.map gsD) (d := gsD q) (at_ := a) (by simpa using hl)
  exact ⟨l.take k ++ [q] ++ l.drop k, ins_ok h hq, by simp; omega, by rw [hk]; simp [List.map_take, List.map_drop]⟩
theorem at_R {i : Int} (h : 0 < rs.length) : ∃ (k : Nat) (r : GR), i % (rs.length : Int) = k ∧ k < rs.length ∧ r ∈ rs ∧ atI (rs.map grD) (k : Int) = some (grD r) := by
  obtain ⟨k, e, hk⟩ := emod_nat i h
  exact ⟨k, rs[k], e, hk, List.getElem_mem hk, atI_of (by rw [List.getElem?_map, List.getElem?_eq_getElem hk]; rfl)⟩
theorem at_S {i : Int} (h : 0 < ss.length) : ∃ (k : Nat) (r : GS), i % (ss.length : Int) = k ∧ k < ss.length ∧ r ∈ ss ∧ atI (ss.map gsD) (k : Int) = some (gsD r) := by
  obtain ⟨k, e, hk⟩ := emod_nat i h
  exact ⟨k, ss[k], e, hk, List.getElem_mem hk, atI_of (by rw [List.getElem?_map, List.getElem?_eq_getElem hk]; rfl)⟩
theorem sp_in (hj : j ≤ 10) (c : 3 < w) (d : w < 7) (T : Tame j last rs ss) : Wp (g_L_spoiled_j5 (evS nu net t w last .fz (rs.map grD) .fz (ss.map gsD) [x7, x8, x9, x10, x11])) (runQ (FQ (j + 1))) := by
  have hn := ne_nil (gr_pl9 rs)
  have T1 : Tame (j + 1) last rs ss := ⟨T.lo, T.hi, T.r, T.x, by have := T.rl; omega, by have := T.sl; omega⟩
  by_cases e : rs = []
  · subst e
    have no : Wp (g_L_spoiled_j4 (evS nu net t w last .fz (([] : List GR).map grD) .fz (ss.map gsD) [x7, x8, x9, x10, x11])) (runQ (FQ (j + 1))) := sp_j4 (.inl rfl) (.inl rfl) rfl rfl T1
    rw [decide_eq_false (by simp)] at hn
    simp (disch := first | omega | rfl) [g_L_spoiled_j5, c, d, hn]
    exact no
  · have l0 : 0 < rs.length := List.length_pos_iff.2 e
    rw [decide_eq_true (by simp [e])] at hn
    obtain ⟨k, r, ek, hk, hr, hat⟩ := at_R (i := nu) l0
    have l0' : (0 : Int) < rs.length := by omega
    obtain ⟨r1, r2, r3, r4⟩ := T.r r hr
    have lo := T.lo
    have hi := T.hi
    have rl := T.rl
    rw [grD] at hat
    obtain ⟨X, hX⟩ : ∃ X, X = rs.map grD := ⟨_, rfl⟩
    have hlen : X.length = rs.length := by rw [hX]; simp
    rcases (by omega : w = 4 ∨ w = 5 ∨ w = 6) with rfl | rfl | rfl
    · obtain ⟨y, hy, ey⟩ := pkD D.int Bd [r.2.2.2, last] (nu / 5 % 2) (by omega) (by simp; omega) (by
        simp only [List.mem_cons, List.not_mem_nil, or_false]
        rintro x (rfl | rfl)
        · exact r4
        · simp only [Bd]; omega)
      simp at ey
      obtain ⟨l', h1, h2, h3⟩ := rput (l := rs) (q := (r.1, r.2.1, r.2.2.1, y)) (a := nu / 11) T.r ⟨r1, r2, r3, hy⟩ (by omega)
      have h3 : φ_L_put [.lst (rs.map grD), .tup [.int r.1, .int r.2.1, .int r.2.2.1, .int y], .int (nu / 11)] = .ok .ow (.lst (l'.map grD)) := h3
      rw [← hX] at h3 hat hn
      rw [← hX]
      simp (disch := first | omega | rfl) [g_L_spoiled_j5, hn, hlen, modD_ok l0', ek, hat, ey, h3, g_L_spoiled_j2, g_L_spoiled_j1]
      exact sp_j4 (rs := l') (.inr rfl) (.inl rfl) rfl rfl ⟨lo, hi, h1, T.x, by omega, T1.sl⟩
    · have b : Bd (max r.2.2.2 (last - nu / 5 % 2)) := by unfold Bd at r4 ⊢; omega
      have a1 : cutG X none (some (k : Int)) = X.take k := cut_upto _ _
      have a2 : cutG X (some ((k : Int) + 1)) none = X.drop (k + 1) := cut_from _ (k + 1)
      have q1 : k + 1 ≤ LIM := by simp [LIM]; omega
      have q2 : k + 1 + (rs.length - (k + 1)) ≤ LIM := by simp [LIM]; omega
      have q3 : rs.length ≤ LIM := by simp [LIM]; omega
      rw [← hX] at hat hn
      rw [← hX]
      simp (disch := first | omega | rfl) [g_L_spoiled_j5, hn, hlen, modD_ok l0', ek, hat, g_L_spoiled_j2, g_L_spoiled_j1, a1, a2, q1, q2, q3]
      refine sp_j4 (rs := rs.take k ++ [(r.1, r.2.1, r.2.2.1, max r.2.2.2 (last - nu / 5 % 2))] ++ rs.drop (k + 1)) (.inr rfl) (.inl rfl) (by rw [hX]; simp [List.map_take, List.map_drop, grD]) rfl ⟨lo, hi, fun x hx => ?_, T.x, by simp; omega, T1.sl⟩
      simp only [List.append_assoc, List.mem_append, List.mem_singleton] at hx
      rcases hx with hx | rfl | hx
      · exact T.r x (List.mem_of_mem_take hx)
      · exact ⟨r1, r2, r3, b⟩
      · exact T.r x (List.mem_of_mem_drop hx)
    · have a1 : cutG X none (some (k : Int)) = X.take k := cut_upto _ _
      have a2 : cutG X (some ((k : Int) + 1)) none = X.drop (k + 1) := cut_from _ (k + 1)
      have q1 : k + (rs.length - (k + 1)) ≤ LIM := by simp [LIM]; omega
      have q3 : rs.length - 1 ≤ LIM := by simp [LIM]; omega
      rw [← hX] at hat hn
      rw [← hX]
      simp (disch := first | omega | rfl) [g_L_spoiled_j5, hn, hlen, modD_ok l0', ek, hat, g_L_spoiled_j2, g_L_spoiled_j1, a1, a2, q1, q3]
      refine sp_j4 (rs := rs.take k ++ rs.drop (k + 1)) (.inr rfl) (.inl rfl) (by rw [hX]; simp [List.map_take, List.map_drop]) rfl ⟨lo, hi, fun x hx => ?_, T.x, by simp; omega, T1.sl⟩
      rcases List.mem_append.1 hx with hx | hx
      · exact T.r x (List.mem_of_mem_take hx)
      · exact T.r x (List.mem_of_mem_drop hx)
theorem spoiled_ok {N : Int} (ok : NetOk n ps) (h0 : 0 ≤ N) (h1 : N < 2 ^ 31) (hj : j ≤ 10) (T : Tame j last rs ss) : FQ (j + 1) (φ_L_spoiled [.int N, netD n ps, glD last rs ss]) := by
  have lo := T.lo
  have hi := T.hi
  have rl := T.rl
  have sl := T.sl
  have T1 : Tame (j + 1) last rs ss := ⟨T.lo, T.hi, T.r, T.x, by have := T.rl; omega, by have := T.sl; omega⟩
  obtain ⟨w, hw⟩ : ∃ w, w = N % 9 := ⟨_, rfl⟩
  obtain ⟨nu, hu⟩ : ∃ nu, nu = N / 9 := ⟨_, rfl⟩
  obtain ⟨q, hq, eq⟩ := wrong_run_ok (nu := nu) (rs := rs) (ss := ss) ok (by omega) (by omega) lo hi
  obtain ⟨x, hx, ex⟩ := wrong_sign_ok (nu := nu) (rs := rs) (ss := ss) ok (by omega) (by omega) lo hi
  obtain ⟨X, hX⟩ : ∃ X, X = rs.map grD := ⟨_, rfl⟩
  obtain ⟨Y, hY⟩ : ∃ Y, Y = ss.map gsD := ⟨_, rfl⟩
  have hg : glD last rs ss = .tup [.int last, .lst X, .lst Y] := by rw [hX, hY]; rfl
  have hn := ne_nil (gs_pl9 (ss := ss) fun x hx => ⟨(T.x x hx).1.sm, (T.x x hx).2.1.sm, (T.x x hx).2.2⟩)
  have ylen : Y.length = ss.length := by rw [hY]; simp
  rw [hg] at eq ex
  refine run_el (motive := FQ (j + 1)) (φ_L_spoiled [.int N, netD n ps, glD last rs ss]) rfl ?_
  rw [hg]
  by_cases c1 : w < 2
  · obtain ⟨l', z1, z2, z3⟩ := rput (l := rs) (q := q) (a := nu / 11) T.r hq (by omega)
    rw [← hX] at z3
    have d2 : ¬ w = 2 := by omega
    have d3 : ¬ w = 3 := by omega
    have d4 : ¬ 3 < w := by omega
    simp (disch := first | omega | rfl) [ev0, g_L_spoiled, ← hw, ← hu, c1, eq, z3, g_L_spoiled_j7, d2, g_L_spoiled_j6, d3, g_L_spoiled_j5, d4]
    exact sp_j4 (rs := l') (.inr rfl) (.inl rfl) rfl hY ⟨lo, hi, z1, T.x, by omega, T1.sl⟩
  · by_cases c2 : w = 2
    · obtain ⟨l', z1, z2, z3⟩ := sput (l := ss) (q := x) (a := nu / 11) T.x hx (by omega)
      rw [← hY] at z3
      simp (disch := first | omega | rfl) [ev0, g_L_spoiled, ← hw, ← hu, c2, ex, z3, g_L_spoiled_j7, g_L_spoiled_j6, g_L_spoiled_j5]
      exact sp_j4 (ss := l') (.inl rfl) (.inr rfl) hX rfl ⟨lo, hi, T.r, z1, T1.rl, by omega⟩
    · by_cases c3 : w = 3
      · by_cases e : ss = []
        · subst e
          rw [decide_eq_false (by simp), ← hY] at hn
          simp (disch := first | omega | rfl) [ev0, g_L_spoiled, ← hw, ← hu, c3, g_L_spoiled_j7, g_L_spoiled_j6, hn, g_L_spoiled_j5]
          exact sp_j4 (.inl rfl) (.inl rfl) hX hY T1
        · have l0 : 0 < ss.length := List.length_pos_iff.2 e
          have l0' : (0 : Int) < ss.length := by omega
          rw [decide_eq_true (by simp [e]), ← hY] at hn
          obtain ⟨k, r, ek, hk, hr, hat⟩ := at_S (i := nu) l0
          obtain ⟨l', z1, z2, z3⟩ := sput (l := ss) (q := r) (a := nu / 11) T.x (T.x r hr) (by omega)
          rw [← hY] at z3 hat
          simp (disch := first | omega | rfl) [ev0, g_L_spoiled, ← hw, ← hu, c3, g_L_spoiled_j7, g_L_spoiled_j6, hn, ylen, modD_ok l0', ek, hat, z3, g_L_spoiled_j5]
          exact sp_j4 (ss := l') (.inl rfl) (.inr rfl) hX rfl ⟨lo, hi, T.r, z1, T1.rl, by omega⟩
      · by_cases c4 : 3 < w ∧ w < 7
        · simp (disch := first | omega | rfl) [ev0, g_L_spoiled, ← hw, ← hu, c1, c2, c3, g_L_spoiled_j7, g_L_spoiled_j6]
          rw [hX, hY]
          exact sp_in hj c4.1 c4.2 T
        · have d : 3 < w := by omega
          have d2 : ¬ w < 7 := by omega
          simp (disch := first | omega | rfl) [ev0, g_L_spoiled, ← hw, ← hu, c1, c2, c3, g_L_spoiled_j7, g_L_spoiled_j6, g_L_spoiled_j5, d, d2]
          exact sp_j4 (.inl rfl) (.inl rfl) hX hY T1
end
noncomputable def toR (r : Run) : GR := ((r.1 : Int), (r.2.1 : Int), (r.2.2.1 : Int), (r.2.2.2 : Int))
noncomputable def toS (x : Sign) : GS := ((x.1 : Int), (x.2.1 : Int), x.2.2)
theorem tale_gl {last : Nat} {rs : List Run} {ss : List Sign} : taleD last rs ss = glD last (rs.map toR) (ss.map toS) := by
  simp only [taleD, glD, List.map_map]; rfl
theorem Tame.sm {j : Nat} {last : Int} {rs : List GR} {ss : List GS} (T : Tame j last rs ss) (hj : j ≤ 10) : SmT last rs ss :=
  ⟨by have := T.lo; have := T.hi; unfold Sm; omega, fun r hr => ⟨(T.r r hr).1.sm, (T.r r hr).2.1.sm, (T.r r hr).2.2.1.sm, (T.r r hr).2.2.2.sm⟩, fun x hx => ⟨(T.x x hx).1.sm, (T.x x hx).2.1.sm, (T.x x hx).2.2⟩, by have := T.rl; omega, by have := T.sl; omega⟩
noncomputable def InvW (S : List D) (net : D) (m : Nat) (xs : List Nat) (ev : Ev) : Prop := ∃ j last rs ss x3, ev = [some (.fz, .scr S), some (.fz, net), some (.fz, glD last rs ss), x3, none, none] ∧ j + xs.length ≤ m ∧ Tame j last rs ss
theorem law_ok (ns : List Int) (hl : ns.length ≤ 63) : φ_law [.scr (ns.map D.int)] = .ok .fz (.bl true) := by
  obtain ⟨n, ps, ok, hps, hnet⟩ := net_ok ns
  obtain ⟨last, rs, ss, gt, hlast, hrs, hss, htale⟩ := tale_ok ns ok hps
  rw [tale_gl] at htale
  have n8 := ok.n8
  have T0 : Tame 0 last (rs.map toR) (ss.map toS) := by
    refine ⟨by omega, by omega, fun r hr => ?_, fun x hx => ?_, by simp; omega, by simp; omega⟩
    · obtain ⟨q, hq, rfl⟩ := List.mem_map.1 hr
      obtain ⟨o, ho, _⟩ := gt.runs.path q hq
      have a := ok.s _ ho
      have b := ok.g _ ho
      have c := gt.runs.turn q hq
      simp at a b
      refine ⟨?_, ?_, ?_, ?_⟩ <;> simp only [Bd, toR] <;> omega
    · obtain ⟨q, hq, rfl⟩ := List.mem_map.1 hx
      have a := gt.signs.h q hq
      have b := gt.signs.t q hq
      refine ⟨?_, ?_, gt.signs.nm q hq⟩ <;> simp only [Bd, toS] <;> omega
  generalize hR : rs.map toR = R at *
  generalize hS : ss.map toS = S at *
  have hc4 := cell_okI (ns := ns) (j := 4) (i := 4) rfl
  have hm4 := mix_ok (cellF ns 4) 4 (by decide) (by decide)
  obtain ⟨m, em, hm⟩ := emod_nat (mixF (cellF ns 4) 4) (n := 4) (by decide)
  have em : mixF (cellF ns 4) 4 % 4 = (m : Int) := em
  refine run_el (φ_law [.scr (ns.map D.int)]) rfl ?_
  simp (disch := first | omega | rfl) [ev0, g_law, hnet, htale, hc4, hm4, em]
  rw [rangeD_eq]
  refine wp_forM (InvW (ns.map D.int) (netD n ps) m) ?_ ?_ ⟨0, _, _, _, _, rfl, by simp, T0⟩
  · rintro k xs _ ⟨pre, hp⟩ ⟨j, la, R', S', x3, rfl, hk, T⟩
    have k4 : k < m := by
      have : k ∈ List.range m := by rw [hp]; simp
      simpa using this
    have hc := cell_okI (ns := ns) (j := 5 + (k : Int)) (i := 5 + k) (by omega)
    have hm := mix_ok (cellF ns (5 + k)) (700 + k) (by omega) (by omega)
    obtain ⟨u1, u2⟩ := mix_nn (cellF ns (5 + k)) (700 + k) (by omega) (by omega)
    simp only [List.length_cons] at hk
    obtain ⟨la', R2, S2, es, T2⟩ := spoiled_ok ok u1 u2 (by omega) T
    refine ⟨_, rfl, ?_⟩
    simp only [Int.zero_add]
    simp (disch := first | omega | rfl) [g_law_b1, hc, hm, es]
    exact ⟨j + 1, la', R2, S2, _, rfl, by omega, T2⟩
  · rintro _ ⟨j, la, R', S', x3, rfl, hk, T⟩
    have hj : j ≤ 10 := by simp at hk; omega
    have sm := T.sm hj
    obtain ⟨k, hdue⟩ := due_ex (n := n) (ps := ps) (last := la) (rs := R') (ss := S')
    have d1 := due_ok ok (by omega) sm hdue
    have f1 := found_ok ok (by omega) sm hdue
    have t1 : D.tup [.int n, .lst (ps.map pathD)] = netD n ps := rfl
    have t2 : D.tup [.int la, .lst (R'.map grD), .lst (S'.map gsD)] = glD la R' S' := rfl
    have hpl : pl 60 (.tup [netD n ps, glD la R' S']) = true := by
      have h5 : plL 57 (ps.map pathD) = true := plL_iff.2 fun d hd => by
        obtain ⟨⟨s, g, o⟩, _, rfl⟩ := List.mem_map.1 hd
        cases o <;> simp [pathD, pl, plL]
      simp [netD, glD, pl, plL, gr_pl, gs_pl sm.x, h5]
    have nT : neD (.tup [netD n ps, glD la R' S']) (.tup [netD n ps, glD la R' S']) = some (.fz, .bl false) := by rw [neD_pl hpl hpl]; simp
    simp (disch := first | omega | rfl) [g_law_j2, net_n, net_ps, gt_last, gt_runs, gt_signs, d1]
    rw [t1, t2]
    simp (disch := first | omega | rfl) [f1, nT, g_law_j1]

theorem all_mk {l : PySem.W.OpenLaw} {w : World} {K : PySem.W.Frag} {h : Heap} {mg : Str → Option Value} {fa f0 f1 f2 f3 f4 f5 f6 f7 f8 f9 f10 f11 f12 f13 f14 f15 f16 f17 f18 f19 f20 f21 f22 f23 f24 f25 : Addr} (X : K.In h) (G : h.Ns mainGlobals mg) (hfa : mg "law" = some (.ref fa))
    {od0 an0 : Option Addr} {sl0 : Array (Option Value)} {oc0 kV0 dc0 pm0 cd0 ct0 : Value}
    (a0 : PySem.W.nsIn K mainGlobals "_law_cell_at" = some (some (.ref f0))) (l0 : K.lookup f0 = some ⟨oc0, od0, .func (PySem.W.fnOf "_law_cell_at" "_law_cell_at" (defArgs s_L_cell_at) (defBody s_L_cell_at) (defScope s_L_cell_at) .none kV0 dc0 pm0 an0 cd0 ct0), sl0⟩) (c0 : PySem.W.codeIn K cd0 "_law_cell_at" = true) (k0 : PySem.W.keepIn K (.ref f0) = true)
    {od1 an1 : Option Addr} {sl1 : Array (Option Value)} {oc1 kV1 dc1 pm1 cd1 ct1 : Value}
    (a1 : PySem.W.nsIn K mainGlobals "_law_double" = some (some (.ref f1))) (l1 : K.lookup f1 = some ⟨oc1, od1, .func (PySem.W.fnOf "_law_double" "_law_double" (defArgs s_L_double) (defBody s_L_double) (defScope s_L_double) .none kV1 dc1 pm1 an1 cd1 ct1), sl1⟩) (c1 : PySem.W.codeIn K cd1 "_law_double" = true) (k1 : PySem.W.keepIn K (.ref f1) = true)
    {od2 an2 : Option Addr} {sl2 : Array (Option Value)} {oc2 kV2 dc2 pm2 cd2 ct2 : Value}
    (a2 : PySem.W.nsIn K mainGlobals "_law_late" = some (some (.ref f2))) (l2 : K.lookup f2 = some ⟨oc2, od2, .func (PySem.W.fnOf "_law_late" "_law_late" (defArgs s_L_late) (defBody s_L_late) (defScope s_L_late) .none kV2 dc2 pm2 an2 cd2 ct2), sl2⟩) (c2 : PySem.W.codeIn K cd2 "_law_late" = true) (k2 : PySem.W.keepIn K (.ref f2) = true)
    {od3 an3 : Option Addr} {sl3 : Array (Option Value)} {oc3 kV3 dc3 pm3 cd3 ct3 : Value}
    (a3 : PySem.W.nsIn K mainGlobals "_law_no_place" = some (some (.ref f3))) (l3 : K.lookup f3 = some ⟨oc3, od3, .func (PySem.W.fnOf "_law_no_place" "_law_no_place" (defArgs s_L_no_place) (defBody s_L_no_place) (defScope s_L_no_place) .none kV3 dc3 pm3 an3 cd3 ct3), sl3⟩) (c3 : PySem.W.codeIn K cd3 "_law_no_place" = true) (k3 : PySem.W.keepIn K (.ref f3) = true)
    {od4 an4 : Option Addr} {sl4 : Array (Option Value)} {oc4 kV4 dc4 pm4 cd4 ct4 : Value}
    (a4 : PySem.W.nsIn K mainGlobals "_law_out" = some (some (.ref f4))) (l4 : K.lookup f4 = some ⟨oc4, od4, .func (PySem.W.fnOf "_law_out" "_law_out" (defArgs s_L_out) (defBody s_L_out) (defScope s_L_out) .none kV4 dc4 pm4 an4 cd4 ct4), sl4⟩) (c4 : PySem.W.codeIn K cd4 "_law_out" = true) (k4 : PySem.W.keepIn K (.ref f4) = true)
    {od5 an5 : Option Addr} {sl5 : Array (Option Value)} {oc5 kV5 dc5 pm5 cd5 ct5 : Value}
    (a5 : PySem.W.nsIn K mainGlobals "_law_due" = some (some (.ref f5))) (l5 : K.lookup f5 = some ⟨oc5, od5, .func (PySem.W.fnOf "_law_due" "_law_due" (defArgs s_L_due) (defBody s_L_due) (defScope s_L_due) .none kV5 dc5 pm5 an5 cd5 ct5), sl5⟩) (c5 : PySem.W.codeIn K cd5 "_law_due" = true) (k5 : PySem.W.keepIn K (.ref f5) = true)
    {od6 an6 : Option Addr} {sl6 : Array (Option Value)} {oc6 kV6 dc6 pm6 cd6 ct6 : Value}
    (a6 : PySem.W.nsIn K mainGlobals "check_all_came" = some (some (.ref f6))) (l6 : K.lookup f6 = some ⟨oc6, od6, .func (PySem.W.fnOf "check_all_came" "check_all_came" (defArgs s_P_check_all_came) (defBody s_P_check_all_came) (defScope s_P_check_all_came) .none kV6 dc6 pm6 an6 cd6 ct6), sl6⟩) (c6 : PySem.W.codeIn K cd6 "check_all_came" = true) (k6 : PySem.W.keepIn K (.ref f6) = true)
    {od7 an7 : Option Addr} {sl7 : Array (Option Value)} {oc7 kV7 dc7 pm7 cd7 ct7 : Value}
    (a7 : PySem.W.nsIn K mainGlobals "path_mosts" = some (some (.ref f7))) (l7 : K.lookup f7 = some ⟨oc7, od7, .func (PySem.W.fnOf "path_mosts" "path_mosts" (defArgs s_P_path_mosts) (defBody s_P_path_mosts) (defScope s_P_path_mosts) .none kV7 dc7 pm7 an7 cd7 ct7), sl7⟩) (c7 : PySem.W.codeIn K cd7 "path_mosts" = true) (k7 : PySem.W.keepIn K (.ref f7) = true)
    {od8 an8 : Option Addr} {sl8 : Array (Option Value)} {oc8 kV8 dc8 pm8 cd8 ct8 : Value}
    (a8 : PySem.W.nsIn K mainGlobals "check_runs_in_time" = some (some (.ref f8))) (l8 : K.lookup f8 = some ⟨oc8, od8, .func (PySem.W.fnOf "check_runs_in_time" "check_runs_in_time" (defArgs s_P_check_runs_in_time) (defBody s_P_check_runs_in_time) (defScope s_P_check_runs_in_time) .none kV8 dc8 pm8 an8 cd8 ct8), sl8⟩) (c8 : PySem.W.codeIn K cd8 "check_runs_in_time" = true) (k8 : PySem.W.keepIn K (.ref f8) = true)
    {od9 an9 : Option Addr} {sl9 : Array (Option Value)} {oc9 kV9 dc9 pm9 cd9 ct9 : Value}
    (a9 : PySem.W.nsIn K mainGlobals "run_key" = some (some (.ref f9))) (l9 : K.lookup f9 = some ⟨oc9, od9, .func (PySem.W.fnOf "run_key" "run_key" (defArgs s_P_run_key) (defBody s_P_run_key) (defScope s_P_run_key) .none kV9 dc9 pm9 an9 cd9 ct9), sl9⟩) (c9 : PySem.W.codeIn K cd9 "run_key" = true) (k9 : PySem.W.keepIn K (.ref f9) = true)
    {od10 an10 : Option Addr} {sl10 : Array (Option Value)} {oc10 kV10 dc10 pm10 cd10 ct10 : Value}
    (a10 : PySem.W.nsIn K mainGlobals "check_mosts" = some (some (.ref f10))) (l10 : K.lookup f10 = some ⟨oc10, od10, .func (PySem.W.fnOf "check_mosts" "check_mosts" (defArgs s_P_check_mosts) (defBody s_P_check_mosts) (defScope s_P_check_mosts) .none kV10 dc10 pm10 an10 cd10 ct10), sl10⟩) (c10 : PySem.W.codeIn K cd10 "check_mosts" = true) (k10 : PySem.W.keepIn K (.ref f10) = true)
    {od11 an11 : Option Addr} {sl11 : Array (Option Value)} {oc11 kV11 dc11 pm11 cd11 ct11 : Value}
    (a11 : PySem.W.nsIn K mainGlobals "is_house" = some (some (.ref f11))) (l11 : K.lookup f11 = some ⟨oc11, od11, .func (PySem.W.fnOf "is_house" "is_house" (defArgs s_P_is_house) (defBody s_P_is_house) (defScope s_P_is_house) .none kV11 dc11 pm11 an11 cd11 ct11), sl11⟩) (c11 : PySem.W.codeIn K cd11 "is_house" = true) (k11 : PySem.W.keepIn K (.ref f11) = true)
    {od12 an12 : Option Addr} {sl12 : Array (Option Value)} {oc12 kV12 dc12 pm12 cd12 ct12 : Value}
    (a12 : PySem.W.nsIn K mainGlobals "check_places" = some (some (.ref f12))) (l12 : K.lookup f12 = some ⟨oc12, od12, .func (PySem.W.fnOf "check_places" "check_places" (defArgs s_P_check_places) (defBody s_P_check_places) (defScope s_P_check_places) .none kV12 dc12 pm12 an12 cd12 ct12), sl12⟩) (c12 : PySem.W.codeIn K cd12 "check_places" = true) (k12 : PySem.W.keepIn K (.ref f12) = true)
    {od13 an13 : Option Addr} {sl13 : Array (Option Value)} {oc13 kV13 dc13 pm13 cd13 ct13 : Value}
    (a13 : PySem.W.nsIn K mainGlobals "check_turns" = some (some (.ref f13))) (l13 : K.lookup f13 = some ⟨oc13, od13, .func (PySem.W.fnOf "check_turns" "check_turns" (defArgs s_P_check_turns) (defBody s_P_check_turns) (defScope s_P_check_turns) .none kV13 dc13 pm13 an13 cd13 ct13), sl13⟩) (c13 : PySem.W.codeIn K cd13 "check_turns" = true) (k13 : PySem.W.keepIn K (.ref f13) = true)
    {od14 an14 : Option Addr} {sl14 : Array (Option Value)} {oc14 kV14 dc14 pm14 cd14 ct14 : Value}
    (a14 : PySem.W.nsIn K mainGlobals "check_unlike" = some (some (.ref f14))) (l14 : K.lookup f14 = some ⟨oc14, od14, .func (PySem.W.fnOf "check_unlike" "check_unlike" (defArgs s_P_check_unlike) (defBody s_P_check_unlike) (defScope s_P_check_unlike) .none kV14 dc14 pm14 an14 cd14 ct14), sl14⟩) (c14 : PySem.W.codeIn K cd14 "check_unlike" = true) (k14 : PySem.W.keepIn K (.ref f14) = true)
    {od15 an15 : Option Addr} {sl15 : Array (Option Value)} {oc15 kV15 dc15 pm15 cd15 ct15 : Value}
    (a15 : PySem.W.nsIn K mainGlobals "check_tale" = some (some (.ref f15))) (l15 : K.lookup f15 = some ⟨oc15, od15, .func (PySem.W.fnOf "check_tale" "check_tale" (defArgs s_P_check_tale) (defBody s_P_check_tale) (defScope s_P_check_tale) .none kV15 dc15 pm15 an15 cd15 ct15), sl15⟩) (c15 : PySem.W.codeIn K cd15 "check_tale" = true) (k15 : PySem.W.keepIn K (.ref f15) = true)
    {od16 an16 : Option Addr} {sl16 : Array (Option Value)} {oc16 kV16 dc16 pm16 cd16 ct16 : Value}
    (a16 : PySem.W.nsIn K mainGlobals "_law_found" = some (some (.ref f16))) (l16 : K.lookup f16 = some ⟨oc16, od16, .func (PySem.W.fnOf "_law_found" "_law_found" (defArgs s_L_found) (defBody s_L_found) (defScope s_L_found) .none kV16 dc16 pm16 an16 cd16 ct16), sl16⟩) (c16 : PySem.W.codeIn K cd16 "_law_found" = true) (k16 : PySem.W.keepIn K (.ref f16) = true)
    {od17 an17 : Option Addr} {sl17 : Array (Option Value)} {oc17 kV17 dc17 pm17 cd17 ct17 : Value}
    (a17 : PySem.W.nsIn K mainGlobals "_law_mix" = some (some (.ref f17))) (l17 : K.lookup f17 = some ⟨oc17, od17, .func (PySem.W.fnOf "_law_mix" "_law_mix" (defArgs s_L_mix) (defBody s_L_mix) (defScope s_L_mix) .none kV17 dc17 pm17 an17 cd17 ct17), sl17⟩) (c17 : PySem.W.codeIn K cd17 "_law_mix" = true) (k17 : PySem.W.keepIn K (.ref f17) = true)
    {od18 an18 : Option Addr} {sl18 : Array (Option Value)} {oc18 kV18 dc18 pm18 cd18 ct18 : Value}
    (a18 : PySem.W.nsIn K mainGlobals "_law_net" = some (some (.ref f18))) (l18 : K.lookup f18 = some ⟨oc18, od18, .func (PySem.W.fnOf "_law_net" "_law_net" (defArgs s_L_net) (defBody s_L_net) (defScope s_L_net) .none kV18 dc18 pm18 an18 cd18 ct18), sl18⟩) (c18 : PySem.W.codeIn K cd18 "_law_net" = true) (k18 : PySem.W.keepIn K (.ref f18) = true)
    {od19 an19 : Option Addr} {sl19 : Array (Option Value)} {oc19 kV19 dc19 pm19 cd19 ct19 : Value}
    (a19 : PySem.W.nsIn K mainGlobals "_law_put" = some (some (.ref f19))) (l19 : K.lookup f19 = some ⟨oc19, od19, .func (PySem.W.fnOf "_law_put" "_law_put" (defArgs s_L_put) (defBody s_L_put) (defScope s_L_put) .none kV19 dc19 pm19 an19 cd19 ct19), sl19⟩) (c19 : PySem.W.codeIn K cd19 "_law_put" = true) (k19 : PySem.W.keepIn K (.ref f19) = true)
    {od20 an20 : Option Addr} {sl20 : Array (Option Value)} {oc20 kV20 dc20 pm20 cd20 ct20 : Value}
    (a20 : PySem.W.nsIn K mainGlobals "_law_wrong_run" = some (some (.ref f20))) (l20 : K.lookup f20 = some ⟨oc20, od20, .func (PySem.W.fnOf "_law_wrong_run" "_law_wrong_run" (defArgs s_L_wrong_run) (defBody s_L_wrong_run) (defScope s_L_wrong_run) .none kV20 dc20 pm20 an20 cd20 ct20), sl20⟩) (c20 : PySem.W.codeIn K cd20 "_law_wrong_run" = true) (k20 : PySem.W.keepIn K (.ref f20) = true)
    {od21 an21 : Option Addr} {sl21 : Array (Option Value)} {oc21 kV21 dc21 pm21 cd21 ct21 : Value}
    (a21 : PySem.W.nsIn K mainGlobals "_law_wrong_sign" = some (some (.ref f21))) (l21 : K.lookup f21 = some ⟨oc21, od21, .func (PySem.W.fnOf "_law_wrong_sign" "_law_wrong_sign" (defArgs s_L_wrong_sign) (defBody s_L_wrong_sign) (defScope s_L_wrong_sign) .none kV21 dc21 pm21 an21 cd21 ct21), sl21⟩) (c21 : PySem.W.codeIn K cd21 "_law_wrong_sign" = true) (k21 : PySem.W.keepIn K (.ref f21) = true)
    {od22 an22 : Option Addr} {sl22 : Array (Option Value)} {oc22 kV22 dc22 pm22 cd22 ct22 : Value}
    (a22 : PySem.W.nsIn K mainGlobals "_law_spoiled" = some (some (.ref f22))) (l22 : K.lookup f22 = some ⟨oc22, od22, .func (PySem.W.fnOf "_law_spoiled" "_law_spoiled" (defArgs s_L_spoiled) (defBody s_L_spoiled) (defScope s_L_spoiled) .none kV22 dc22 pm22 an22 cd22 ct22), sl22⟩) (c22 : PySem.W.codeIn K cd22 "_law_spoiled" = true) (k22 : PySem.W.keepIn K (.ref f22) = true)
    {od23 an23 : Option Addr} {sl23 : Array (Option Value)} {oc23 kV23 dc23 pm23 cd23 ct23 : Value}
    (a23 : PySem.W.nsIn K mainGlobals "_law_signs" = some (some (.ref f23))) (l23 : K.lookup f23 = some ⟨oc23, od23, .func (PySem.W.fnOf "_law_signs" "_law_signs" (defArgs s_L_signs) (defBody s_L_signs) (defScope s_L_signs) .none kV23 dc23 pm23 an23 cd23 ct23), sl23⟩) (c23 : PySem.W.codeIn K cd23 "_law_signs" = true) (k23 : PySem.W.keepIn K (.ref f23) = true)
    {od24 an24 : Option Addr} {sl24 : Array (Option Value)} {oc24 kV24 dc24 pm24 cd24 ct24 : Value}
    (a24 : PySem.W.nsIn K mainGlobals "_law_tale" = some (some (.ref f24))) (l24 : K.lookup f24 = some ⟨oc24, od24, .func (PySem.W.fnOf "_law_tale" "_law_tale" (defArgs s_L_tale) (defBody s_L_tale) (defScope s_L_tale) .none kV24 dc24 pm24 an24 cd24 ct24), sl24⟩) (c24 : PySem.W.codeIn K cd24 "_law_tale" = true) (k24 : PySem.W.keepIn K (.ref f24) = true)
    {od25 an25 : Option Addr} {sl25 : Array (Option Value)} {oc25 kV25 dc25 pm25 cd25 ct25 : Value}
    (a25 : PySem.W.nsIn K mainGlobals "law" = some (some (.ref f25))) (l25 : K.lookup f25 = some ⟨oc25, od25, .func (PySem.W.fnOf "law" "law" (defArgs s_law) (defBody s_law) (defScope s_law) .none kV25 dc25 pm25 an25 cd25 ct25), sl25⟩) (c25 : PySem.W.codeIn K cd25 "law" = true) (k25 : PySem.W.keepIn K (.ref f25) = true)
    (z_abs : PySem.W.nsIn K mainGlobals "abs" = some none)
    (z_int : PySem.W.nsIn K mainGlobals "int" = some none)
    (z_isinstance : PySem.W.nsIn K mainGlobals "isinstance" = some none)
    (z_len : PySem.W.nsIn K mainGlobals "len" = some none)
    (z_list : PySem.W.nsIn K mainGlobals "list" = some none)
    (z_max : PySem.W.nsIn K mainGlobals "max" = some none)
    (z_min : PySem.W.nsIn K mainGlobals "min" = some none)
    (z_range : PySem.W.nsIn K mainGlobals "range" = some none)
    (z_set : PySem.W.nsIn K mainGlobals "set" = some none)
    {tk_LAST_BOUND : Tok} (w_LAST_BOUND : PySem.W.nsIn K mainGlobals "LAST_BOUND" = some (some (.int 60 tk_LAST_BOUND)))
    {K_HearError : Addr}
    (n_HearError : PySem.W.nsIn K mainGlobals "HearError" = some (some (.ref K_HearError)))
    {K_NoNet : Addr}
    (n_NoNet : PySem.W.nsIn K mainGlobals "NoNet" = some (some (.ref K_NoNet)))
    {K_NoPath : Addr}
    (n_NoPath : PySem.W.nsIn K mainGlobals "NoPath" = some (some (.ref K_NoPath)))
    {K_OutOfTime : Addr}
    (n_OutOfTime : PySem.W.nsIn K mainGlobals "OutOfTime" = some (some (.ref K_OutOfTime)))
    {K_Twice : Addr}
    (n_Twice : PySem.W.nsIn K mainGlobals "Twice" = some (some (.ref K_Twice)))
    {K_TooLate : Addr}
    (n_TooLate : PySem.W.nsIn K mainGlobals "TooLate" = some (some (.ref K_TooLate)))
    (z_ValueError : PySem.W.nsIn K mainGlobals "ValueError" = some none)
    (x_sh : PySem.W.subIn K (.ref K_HearError) (.type "BaseException") = some true)
    (x_th : PySem.W.typeIn K (.ref K_HearError) = some (.type "type"))
    (x_mh : PySem.W.mroIn K K_HearError (.type "object") = some true)
    (x_cn : PySem.W.specialIn K (.builtin "object.__class__") "__get__" = some (some (.builtin "getset_descriptor.__get__")))
    (x_ct : PySem.W.takesIn K (.builtin "object.__class__") = some true)
    (x_ek_NoPath : PySem.W.excIn K K_NoPath [.type "ValueError", .type "Exception", .type "BaseException", .type "object"] "ValueError.__new__" = true)
    (x_ns_NoPath : PySem.W.subIn K (.ref K_NoPath) (.ref K_HearError) = some true)
    (x_ga_NoPath : PySem.W.findIn K (.ref K_NoPath) "__getattribute__" = some (some (.builtin "BaseException.__getattribute__")))
    (x_gt_NoPath : PySem.W.findIn K (.ref K_NoPath) "__getattr__" = some none)
    (x_be_NoPath : PySem.W.mroIn K K_NoPath (.type "BaseException") = some true)
    (x_ob_NoPath : PySem.W.mroIn K K_NoPath (.type "object") = some true)
    (x_ha_NoPath : PySem.W.findIn K (.ref K_NoPath) "__class__" = some (some (.builtin "object.__class__")))
    (kt_NoPath_NoPath : PySem.W.kitOne K (.ref K_NoPath) (.ref K_NoPath) = some true)
    (kt_NoPath_OutOfTime : PySem.W.kitOne K (.ref K_NoPath) (.ref K_OutOfTime) = some false)
    (kt_NoPath_Twice : PySem.W.kitOne K (.ref K_NoPath) (.ref K_Twice) = some false)
    (kt_NoPath_TooLate : PySem.W.kitOne K (.ref K_NoPath) (.ref K_TooLate) = some false)
    (kt_NoPath_NoNet : PySem.W.kitOne K (.ref K_NoPath) (.ref K_NoNet) = some false)
    (kt_NoPath_ve : PySem.W.kitOne K (.ref K_NoPath) (.type "ValueError") = some true)
    (x_ek_OutOfTime : PySem.W.excIn K K_OutOfTime [.type "ValueError", .type "Exception", .type "BaseException", .type "object"] "ValueError.__new__" = true)
    (x_ns_OutOfTime : PySem.W.subIn K (.ref K_OutOfTime) (.ref K_HearError) = some true)
    (x_ga_OutOfTime : PySem.W.findIn K (.ref K_OutOfTime) "__getattribute__" = some (some (.builtin "BaseException.__getattribute__")))
    (x_gt_OutOfTime : PySem.W.findIn K (.ref K_OutOfTime) "__getattr__" = some none)
    (x_be_OutOfTime : PySem.W.mroIn K K_OutOfTime (.type "BaseException") = some true)
    (x_ob_OutOfTime : PySem.W.mroIn K K_OutOfTime (.type "object") = some true)
    (x_ha_OutOfTime : PySem.W.findIn K (.ref K_OutOfTime) "__class__" = some (some (.builtin "object.__class__")))
    (kt_OutOfTime_NoPath : PySem.W.kitOne K (.ref K_OutOfTime) (.ref K_NoPath) = some false)
    (kt_OutOfTime_OutOfTime : PySem.W.kitOne K (.ref K_OutOfTime) (.ref K_OutOfTime) = some true)
    (kt_OutOfTime_Twice : PySem.W.kitOne K (.ref K_OutOfTime) (.ref K_Twice) = some false)
    (kt_OutOfTime_TooLate : PySem.W.kitOne K (.ref K_OutOfTime) (.ref K_TooLate) = some false)
    (kt_OutOfTime_NoNet : PySem.W.kitOne K (.ref K_OutOfTime) (.ref K_NoNet) = some false)
    (kt_OutOfTime_ve : PySem.W.kitOne K (.ref K_OutOfTime) (.type "ValueError") = some true)
    (x_ek_Twice : PySem.W.excIn K K_Twice [.type "ValueError", .type "Exception", .type "BaseException", .type "object"] "ValueError.__new__" = true)
    (x_ns_Twice : PySem.W.subIn K (.ref K_Twice) (.ref K_HearError) = some true)
    (x_ga_Twice : PySem.W.findIn K (.ref K_Twice) "__getattribute__" = some (some (.builtin "BaseException.__getattribute__")))
    (x_gt_Twice : PySem.W.findIn K (.ref K_Twice) "__getattr__" = some none)
    (x_be_Twice : PySem.W.mroIn K K_Twice (.type "BaseException") = some true)
    (x_ob_Twice : PySem.W.mroIn K K_Twice (.type "object") = some true)
    (x_ha_Twice : PySem.W.findIn K (.ref K_Twice) "__class__" = some (some (.builtin "object.__class__")))
    (kt_Twice_NoPath : PySem.W.kitOne K (.ref K_Twice) (.ref K_NoPath) = some false)
    (kt_Twice_OutOfTime : PySem.W.kitOne K (.ref K_Twice) (.ref K_OutOfTime) = some false)
    (kt_Twice_Twice : PySem.W.kitOne K (.ref K_Twice) (.ref K_Twice) = some true)
    (kt_Twice_TooLate : PySem.W.kitOne K (.ref K_Twice) (.ref K_TooLate) = some false)
    (kt_Twice_NoNet : PySem.W.kitOne K (.ref K_Twice) (.ref K_NoNet) = some false)
    (kt_Twice_ve : PySem.W.kitOne K (.ref K_Twice) (.type "ValueError") = some true)
    (x_ek_TooLate : PySem.W.excIn K K_TooLate [.type "ValueError", .type "Exception", .type "BaseException", .type "object"] "ValueError.__new__" = true)
    (x_ns_TooLate : PySem.W.subIn K (.ref K_TooLate) (.ref K_HearError) = some true)
    (x_ga_TooLate : PySem.W.findIn K (.ref K_TooLate) "__getattribute__" = some (some (.builtin "BaseException.__getattribute__")))
    (x_gt_TooLate : PySem.W.findIn K (.ref K_TooLate) "__getattr__" = some none)
    (x_be_TooLate : PySem.W.mroIn K K_TooLate (.type "BaseException") = some true)
    (x_ob_TooLate : PySem.W.mroIn K K_TooLate (.type "object") = some true)
    (x_ha_TooLate : PySem.W.findIn K (.ref K_TooLate) "__class__" = some (some (.builtin "object.__class__")))
    (kt_TooLate_NoPath : PySem.W.kitOne K (.ref K_TooLate) (.ref K_NoPath) = some false)
    (kt_TooLate_OutOfTime : PySem.W.kitOne K (.ref K_TooLate) (.ref K_OutOfTime) = some false)
    (kt_TooLate_Twice : PySem.W.kitOne K (.ref K_TooLate) (.ref K_Twice) = some false)
    (kt_TooLate_TooLate : PySem.W.kitOne K (.ref K_TooLate) (.ref K_TooLate) = some true)
    (kt_TooLate_NoNet : PySem.W.kitOne K (.ref K_TooLate) (.ref K_NoNet) = some false)
    (kt_TooLate_ve : PySem.W.kitOne K (.ref K_TooLate) (.type "ValueError") = some true)
    : ∃ fd : FuncData, (∀ (s : Shared) (v : Value), BindsTo s fd ⟨[v], []⟩ [("_law_script", v)]) ∧ ∀ base : Heap, K.In base → base.Ns mainGlobals mg → FnOk l.prog w K mg base CX0 6 fa fd ["_law_script"] (spV0 K φ_law 1) := by
  have e := hfa.symm.trans (PySem.W.mg_of X G a25)
  cases e
  have m_abs := PySem.W.mg_none_of X G z_abs
  have m_int := PySem.W.mg_none_of X G z_int
  have m_isinstance := PySem.W.mg_none_of X G z_isinstance
  have m_len := PySem.W.mg_none_of X G z_len
  have m_list := PySem.W.mg_none_of X G z_list
  have m_max := PySem.W.mg_none_of X G z_max
  have m_min := PySem.W.mg_none_of X G z_min
  have m_range := PySem.W.mg_none_of X G z_range
  have m_set := PySem.W.mg_none_of X G z_set
  have g_LAST_BOUND : ∃ t, mg "LAST_BOUND" = some (.int 60 t) := ⟨_, PySem.W.mg_of X G w_LAST_BOUND⟩
  obtain ⟨cls, hcls⟩ : ∃ cls : Addr → Addr, ∀ i, cls i = if i = 2 then K_OutOfTime else if i = 3 then K_Twice else if i = 4 then K_TooLate else K_NoPath := ⟨_, fun _ => rfl⟩
  have e1c : cls 1 = K_NoPath := by rw [hcls]; rfl
  have e2c : cls 2 = K_OutOfTime := by rw [hcls]; rfl
  have e3c : cls 3 = K_Twice := by rw [hcls]; rfl
  have e4c : cls 4 = K_TooLate := by rw [hcls]; rfl
  have cs : ∀ i, cls i = K_NoPath ∨ cls i = K_OutOfTime ∨ cls i = K_Twice ∨ cls i = K_TooLate := fun i => by
    rw [hcls]
    split
    · exact .inr (.inl rfl)
    · split
      · exact .inr (.inr (.inl rfl))
      · split
        · exact .inr (.inr (.inr rfl))
        · exact .inl rfl
  have ek_NoPath : ExK K (cls 1) := by rw [e1c]; exact x_ek_NoPath
  have em_NoPath : mg "NoPath" = some (.ref (cls 1)) := by rw [e1c]; exact PySem.W.mg_of X G n_NoPath
  have ek_OutOfTime : ExK K (cls 2) := by rw [e2c]; exact x_ek_OutOfTime
  have em_OutOfTime : mg "OutOfTime" = some (.ref (cls 2)) := by rw [e2c]; exact PySem.W.mg_of X G n_OutOfTime
  have ek_Twice : ExK K (cls 3) := by rw [e3c]; exact x_ek_Twice
  have em_Twice : mg "Twice" = some (.ref (cls 3)) := by rw [e3c]; exact PySem.W.mg_of X G n_Twice
  have ek_TooLate : ExK K (cls 4) := by rw [e4c]; exact x_ek_TooLate
  have em_TooLate : mg "TooLate" = some (.ref (cls 4)) := by rw [e4c]; exact PySem.W.mg_of X G n_TooLate
  have z6 : ∀ q, PySem.W.exmOne K (.ref (cls q)) (.ref K_HearError) = some true := fun q => by
    rcases cs q with e | e | e | e
    · rw [e]; exact exm_of x_sh x_th x_ns_NoPath x_mh
    · rw [e]; exact exm_of x_sh x_th x_ns_OutOfTime x_mh
    · rw [e]; exact exm_of x_sh x_th x_ns_Twice x_mh
    · rw [e]; exact exm_of x_sh x_th x_ns_TooLate x_mh
  have z9 : ∀ q, ExcC K (cls q) := fun q => by
    rcases cs q with e | e | e | e
    · rw [e]; exact ⟨cls_some x_ob_NoPath, x_ga_NoPath, x_gt_NoPath, x_be_NoPath, x_ob_NoPath, x_ha_NoPath, x_cn, x_ct⟩
    · rw [e]; exact ⟨cls_some x_ob_OutOfTime, x_ga_OutOfTime, x_gt_OutOfTime, x_be_OutOfTime, x_ob_OutOfTime, x_ha_OutOfTime, x_cn, x_ct⟩
    · rw [e]; exact ⟨cls_some x_ob_Twice, x_ga_Twice, x_gt_Twice, x_be_Twice, x_ob_Twice, x_ha_Twice, x_cn, x_ct⟩
    · rw [e]; exact ⟨cls_some x_ob_TooLate, x_ga_TooLate, x_gt_TooLate, x_be_TooLate, x_ob_TooLate, x_ha_TooLate, x_cn, x_ct⟩
  have y3 : ∀ q, PySem.W.kitOne K (.ref (cls q)) (.type "ValueError") = some true := fun q => by
    rcases cs q with e | e | e | e
    · rw [e]; exact kt_NoPath_ve
    · rw [e]; exact kt_OutOfTime_ve
    · rw [e]; exact kt_Twice_ve
    · rw [e]; exact kt_TooLate_ve
  have four : ∀ i : Nat, 1 ≤ i → i ≤ 4 → i = 1 ∨ i = 2 ∨ i = 3 ∨ i = 4 := fun i h1 h2 => by omega
  have kk0 : ∀ i : Nat, 1 ≤ i → i ≤ 4 → PySem.W.kitOne K (.ref (cls i)) (.ref K_NoPath) = some (decide (i = 1)) := fun i h1 h4 => by
    rcases four i h1 h4 with rfl | rfl | rfl | rfl
    · rw [e1c]; exact kt_NoPath_NoPath
    · rw [e2c]; exact kt_OutOfTime_NoPath
    · rw [e3c]; exact kt_Twice_NoPath
    · rw [e4c]; exact kt_TooLate_NoPath
  have kk1 : ∀ i : Nat, 1 ≤ i → i ≤ 4 → PySem.W.kitOne K (.ref (cls i)) (.ref K_OutOfTime) = some (decide (i = 2)) := fun i h1 h4 => by
    rcases four i h1 h4 with rfl | rfl | rfl | rfl
    · rw [e1c]; exact kt_NoPath_OutOfTime
    · rw [e2c]; exact kt_OutOfTime_OutOfTime
    · rw [e3c]; exact kt_Twice_OutOfTime
    · rw [e4c]; exact kt_TooLate_OutOfTime
  have kk2 : ∀ i : Nat, 1 ≤ i → i ≤ 4 → PySem.W.kitOne K (.ref (cls i)) (.ref K_Twice) = some (decide (i = 3)) := fun i h1 h4 => by
    rcases four i h1 h4 with rfl | rfl | rfl | rfl
    · rw [e1c]; exact kt_NoPath_Twice
    · rw [e2c]; exact kt_OutOfTime_Twice
    · rw [e3c]; exact kt_Twice_Twice
    · rw [e4c]; exact kt_TooLate_Twice
  have kk3 : ∀ i : Nat, 1 ≤ i → i ≤ 4 → PySem.W.kitOne K (.ref (cls i)) (.ref K_TooLate) = some (decide (i = 4)) := fun i h1 h4 => by
    rcases four i h1 h4 with rfl | rfl | rfl | rfl
    · rw [e1c]; exact kt_NoPath_TooLate
    · rw [e2c]; exact kt_OutOfTime_TooLate
    · rw [e3c]; exact kt_Twice_TooLate
    · rw [e4c]; exact kt_TooLate_TooLate
  have kk4 : ∀ i : Nat, 1 ≤ i → i ≤ 4 → PySem.W.kitOne K (.ref (cls i)) (.ref K_NoNet) = some false := fun i h1 h4 => by
    rcases four i h1 h4 with rfl | rfl | rfl | rfl
    · rw [e1c]; exact kt_NoPath_NoNet
    · rw [e2c]; exact kt_OutOfTime_NoNet
    · rw [e3c]; exact kt_Twice_NoNet
    · rw [e4c]; exact kt_TooLate_NoNet
  have RK : FndK K mg cls K_NoPath K_OutOfTime K_Twice K_TooLate K_HearError K_NoNet := ⟨PySem.W.mg_of X G n_NoPath, PySem.W.mg_of X G n_OutOfTime, PySem.W.mg_of X G n_Twice, PySem.W.mg_of X G n_TooLate, PySem.W.mg_of X G n_HearError, z6, PySem.W.mg_of X G n_NoNet, PySem.W.mg_none_of X G z_ValueError, z9, kk0, kk1, kk2, kk3, kk4, y3⟩
  have F0 := fun_mk (st := s_L_cell_at) l0 c0 k0
  have b0 := F0.binds (ps := ps_L_cell_at) fun _ _ _ _ _ _ => len_s fun _ => len_s fun _ => len_0 rfl
  have F1 := fun_mk (st := s_L_double) l1 c1 k1
  have b1 := F1.binds (ps := ps_L_double) fun _ _ _ _ _ _ => len_s fun _ => len_s fun _ => len_0 rfl
  have F2 := fun_mk (st := s_L_late) l2 c2 k2
  have b2 := F2.binds (ps := ps_L_late) fun _ _ _ _ _ _ => len_s fun _ => len_s fun _ => len_0 rfl
  have F3 := fun_mk (st := s_L_no_place) l3 c3 k3
  have b3 := F3.binds (ps := ps_L_no_place) fun _ _ _ _ _ _ => len_s fun _ => len_s fun _ => len_0 rfl
  have F4 := fun_mk (st := s_L_out) l4 c4 k4
  have b4 := F4.binds (ps := ps_L_out) fun _ _ _ _ _ _ => len_s fun _ => len_s fun _ => len_0 rfl
  have F5 := fun_mk (st := s_L_due) l5 c5 k5
  have b5 := F5.binds (ps := ps_L_due) fun _ _ _ _ _ _ => len_s fun _ => len_s fun _ => len_0 rfl
  have F6 := fun_mk (st := s_P_check_all_came) l6 c6 k6
  have b6 := F6.binds (ps := ps_P_check_all_came) fun _ _ _ _ _ _ => len_s fun _ => len_s fun _ => len_s fun _ => len_0 rfl
  have F7 := fun_mk (st := s_P_path_mosts) l7 c7 k7
  have b7 := F7.binds (ps := ps_P_path_mosts) fun _ _ _ _ _ _ => len_s fun _ => len_0 rfl
  have F8 := fun_mk (st := s_P_check_runs_in_time) l8 c8 k8
  have b8 := F8.binds (ps := ps_P_check_runs_in_time) fun _ _ _ _ _ _ => len_s fun _ => len_s fun _ => len_0 rfl
  have F9 := fun_mk (st := s_P_run_key) l9 c9 k9
  have b9 := F9.binds (ps := ps_P_run_key) fun _ _ _ _ _ _ => len_s fun _ => len_0 rfl
  have F10 := fun_mk (st := s_P_check_mosts) l10 c10 k10
  have b10 := F10.binds (ps := ps_P_check_mosts) fun _ _ _ _ _ _ => len_s fun _ => len_s fun _ => len_0 rfl
  have F11 := fun_mk (st := s_P_is_house) l11 c11 k11
  have b11 := F11.binds (ps := ps_P_is_house) fun _ _ _ _ _ _ => len_s fun _ => len_s fun _ => len_0 rfl
  have F12 := fun_mk (st := s_P_check_places) l12 c12 k12
  have b12 := F12.binds (ps := ps_P_check_places) fun _ _ _ _ _ _ => len_s fun _ => len_s fun _ => len_0 rfl
  have F13 := fun_mk (st := s_P_check_turns) l13 c13 k13
  have b13 := F13.binds (ps := ps_P_check_turns) fun _ _ _ _ _ _ => len_s fun _ => len_0 rfl
  have F14 := fun_mk (st := s_P_check_unlike) l14 c14 k14
  have b14 := F14.binds (ps := ps_P_check_unlike) fun _ _ _ _ _ _ => len_s fun _ => len_0 rfl
  have F15 := fun_mk (st := s_P_check_tale) l15 c15 k15
  have b15 := F15.binds (ps := ps_P_check_tale) fun _ _ _ _ _ _ => len_s fun _ => len_s fun _ => len_0 rfl
  have F16 := fun_mk (st := s_L_found) l16 c16 k16
  have b16 := F16.binds (ps := ps_L_found) fun _ _ _ _ _ _ => len_s fun _ => len_s fun _ => len_0 rfl
  have F17 := fun_mk (st := s_L_mix) l17 c17 k17
  have b17 := F17.binds (ps := ps_L_mix) fun _ _ _ _ _ _ => len_s fun _ => len_s fun _ => len_0 rfl
  have F18 := fun_mk (st := s_L_net) l18 c18 k18
  have b18 := F18.binds (ps := ps_L_net) fun _ _ _ _ _ _ => len_s fun _ => len_0 rfl
  have F19 := fun_mk (st := s_L_put) l19 c19 k19
  have b19 := F19.binds (ps := ps_L_put) fun _ _ _ _ _ _ => len_s fun _ => len_s fun _ => len_s fun _ => len_0 rfl
  have F20 := fun_mk (st := s_L_wrong_run) l20 c20 k20
  have b20 := F20.binds (ps := ps_L_wrong_run) fun _ _ _ _ _ _ => len_s fun _ => len_s fun _ => len_s fun _ => len_0 rfl
  have F21 := fun_mk (st := s_L_wrong_sign) l21 c21 k21
  have b21 := F21.binds (ps := ps_L_wrong_sign) fun _ _ _ _ _ _ => len_s fun _ => len_s fun _ => len_s fun _ => len_0 rfl
  have F22 := fun_mk (st := s_L_spoiled) l22 c22 k22
  have b22 := F22.binds (ps := ps_L_spoiled) fun _ _ _ _ _ _ => len_s fun _ => len_s fun _ => len_s fun _ => len_0 rfl
  have F23 := fun_mk (st := s_L_signs) l23 c23 k23
  have b23 := F23.binds (ps := ps_L_signs) fun _ _ _ _ _ _ => len_s fun _ => len_s fun _ => len_s fun _ => len_0 rfl
  have F24 := fun_mk (st := s_L_tale) l24 c24 k24
  have b24 := F24.binds (ps := ps_L_tale) fun _ _ _ _ _ _ => len_s fun _ => len_s fun _ => len_0 rfl
  have F25 := fun_mk (st := s_law) l25 c25 k25
  refine ⟨PySem.W.fnOf "law" "law" (defArgs s_law) (defBody s_law) (defScope s_law) .none kV25 dc25 pm25 an25 cd25 ct25, fun s v => .of_eq rfl, fun base _ _ => ?_⟩
  have C_L_cell_at : Callee l.prog w K mg base 1 "_law_cell_at" 2 φ_L_cell_at := ⟨_, _, _, ok_L_cell_at F0 m_len, b0, PySem.W.mg_of X G a0, k0⟩
  have C_L_double : Callee l.prog w K mg base 1 "_law_double" 2 φ_L_double := ⟨_, _, _, ok_L_double F1 m_len m_set, b1, PySem.W.mg_of X G a1, k1⟩
  have C_L_late : Callee l.prog w K mg base 1 "_law_late" 2 φ_L_late := ⟨_, _, _, ok_L_late F2 m_range, b2, PySem.W.mg_of X G a2, k2⟩
  have C_L_no_place : Callee l.prog w K mg base 1 "_law_no_place" 2 φ_L_no_place := ⟨_, _, _, ok_L_no_place F3 , b3, PySem.W.mg_of X G a3, k3⟩
  have C_L_out : Callee l.prog w K mg base 1 "_law_out" 2 φ_L_out := ⟨_, _, _, ok_L_out F4 , b4, PySem.W.mg_of X G a4, k4⟩
  have C_L_due : Callee l.prog w K mg base 2 "_law_due" 2 φ_L_due := ⟨_, _, _, ok_L_due F5 m_int C_L_double C_L_late C_L_no_place C_L_out, b5, PySem.W.mg_of X G a5, k5⟩
  have C_P_check_all_came : CalleeX l.prog w K mg base cls 1 "check_all_came" 3 φ_P_check_all_came := ⟨_, _, _, ok_P_check_all_came (cls := cls) F6 m_range ek_TooLate em_TooLate, b6, PySem.W.mg_of X G a6, k6⟩
  have C_P_path_mosts : Callee l.prog w K mg base 1 "path_mosts" 1 φ_P_path_mosts := ⟨_, _, _, ok_P_path_mosts F7 , b7, PySem.W.mg_of X G a7, k7⟩
  have C_P_check_runs_in_time : CalleeX l.prog w K mg base cls 2 "check_runs_in_time" 2 φ_P_check_runs_in_time := ⟨_, _, _, ok_P_check_runs_in_time (cls := cls) F8 C_P_path_mosts ek_TooLate em_TooLate, b8, PySem.W.mg_of X G a8, k8⟩
  have C_P_run_key : Callee l.prog w K mg base 1 "run_key" 1 φ_P_run_key := ⟨_, _, _, ok_P_run_key F9 , b9, PySem.W.mg_of X G a9, k9⟩
  have C_P_check_mosts : CalleeX l.prog w K mg base cls 3 "check_mosts" 2 φ_P_check_mosts := ⟨_, _, _, ok_P_check_mosts (cls := cls) F10 C_P_check_all_came C_P_check_runs_in_time C_P_run_key, b10, PySem.W.mg_of X G a10, k10⟩
  have C_P_is_house : Callee l.prog w K mg base 1 "is_house" 2 φ_P_is_house := ⟨_, _, _, ok_P_is_house F11 , b11, PySem.W.mg_of X G a11, k11⟩
  have C_P_check_places : CalleeX l.prog w K mg base cls 2 "check_places" 2 φ_P_check_places := ⟨_, _, _, ok_P_check_places (cls := cls) F12 C_P_is_house C_P_path_mosts ek_NoPath em_NoPath, b12, PySem.W.mg_of X G a12, k12⟩
  have C_P_check_turns : CalleeX l.prog w K mg base cls 1 "check_turns" 1 φ_P_check_turns := ⟨_, _, _, ok_P_check_turns (cls := cls) F13 g_LAST_BOUND ek_OutOfTime em_OutOfTime, b13, PySem.W.mg_of X G a13, k13⟩
  have C_P_check_unlike : CalleeX l.prog w K mg base cls 2 "check_unlike" 1 φ_P_check_unlike := ⟨_, _, _, ok_P_check_unlike (cls := cls) F14 m_len m_set C_P_run_key ek_Twice em_Twice, b14, PySem.W.mg_of X G a14, k14⟩
  have C_P_check_tale : CalleeX l.prog w K mg base cls 4 "check_tale" 2 φ_P_check_tale := ⟨_, _, _, ok_P_check_tale (cls := cls) F15 C_P_check_mosts C_P_check_places C_P_check_turns C_P_check_unlike, b15, PySem.W.mg_of X G a15, k15⟩
  have C_L_found : Callee l.prog w K mg base 5 "_law_found" 2 φ_L_found := ⟨_, _, _, ok_L_found (cls := cls) F16 m_isinstance C_P_check_tale RK, b16, PySem.W.mg_of X G a16, k16⟩
  have C_L_mix : Callee l.prog w K mg base 1 "_law_mix" 2 φ_L_mix := ⟨_, _, _, ok_L_mix F17 m_range, b17, PySem.W.mg_of X G a17, k17⟩
  have C_L_net : Callee l.prog w K mg base 2 "_law_net" 1 φ_L_net := ⟨_, _, _, ok_L_net F18 m_abs m_range C_L_cell_at C_L_mix, b18, PySem.W.mg_of X G a18, k18⟩
  have C_L_put : Callee l.prog w K mg base 1 "_law_put" 3 φ_L_put := ⟨_, _, _, ok_L_put F19 m_len, b19, PySem.W.mg_of X G a19, k19⟩
  have C_L_wrong_run : Callee l.prog w K mg base 1 "_law_wrong_run" 3 φ_L_wrong_run := ⟨_, _, _, ok_L_wrong_run F20 m_len m_max, b20, PySem.W.mg_of X G a20, k20⟩
  have C_L_wrong_sign : Callee l.prog w K mg base 1 "_law_wrong_sign" 3 φ_L_wrong_sign := ⟨_, _, _, ok_L_wrong_sign F21 m_max, b21, PySem.W.mg_of X G a21, k21⟩
  have C_L_spoiled : Callee l.prog w K mg base 2 "_law_spoiled" 3 φ_L_spoiled := ⟨_, _, _, ok_L_spoiled F22 m_len m_max C_L_put C_L_wrong_run C_L_wrong_sign, b22, PySem.W.mg_of X G a22, k22⟩
  have C_L_signs : Callee l.prog w K mg base 2 "_law_signs" 3 φ_L_signs := ⟨_, _, _, ok_L_signs F23 m_range C_L_cell_at C_L_mix, b23, PySem.W.mg_of X G a23, k23⟩
  have C_L_tale : Callee l.prog w K mg base 3 "_law_tale" 2 φ_L_tale := ⟨_, _, _, ok_L_tale F24 m_min m_range C_L_cell_at C_L_mix C_L_signs, b24, PySem.W.mg_of X G a24, k24⟩
  exact ok_law F25 m_list m_range C_L_cell_at C_L_due C_L_found C_L_mix C_L_net C_L_spoiled C_L_tale
theorem walk {l : PySem.W.OpenLaw} {q : Program} {loose : List Str} {XP : (Str → Option Value) → Heap → Prop} {YP : World → Heap → Prop} {d : DefRec} {K : Params → PySem.W.Frag} (hn : l.most = some 63) (hdf : d.params.defaults = [])
    (hY : ∀ (w : World) (h : Heap), YP w h → (K w.params).In h)
    (F : ∀ (w : World) (mg : Str → Option Value) (fa : Addr) (h : Heap), (K w.params).In h → h.Ns mainGlobals mg → mg d.name = some (.ref fa) →
      ∃ fd : FuncData, (∀ (s : Shared) (u : Value), BindsTo s fd ⟨[u], []⟩ [("_law_script", u)]) ∧ ∀ base : Heap, (K w.params).In base → base.Ns mainGlobals mg → FnOk l.prog w (K w.params) mg base CX0 6 fa fd ["_law_script"] (spV0 (K w.params) φ_law 1)) :
    PySem.W.WalkO q loose XP YP l.row.toRowW d [] (fun f vs => PySem.call f vs) :=
  L2.walk_ofK (n := 63) (k := 6) (x := "_law_script") (CX := CX0) (sp := fun K => spV0 K φ_law 1) hn (by decide) hdf ⟨rfl, by decide, by decide, rfl⟩ hY F
    (fun K H a ns hl _ hS => L3.law_sp hS (law_ok ns hl)) fun _ _ _ _ z => z

end My
open PySem PySem.W PyProof.Rows
noncomputable def My.view : Program := { PySem.Challenge.pw_hearsay_k12_faults_in_order with main := { PySem.Challenge.pw_hearsay_k12_faults_in_order.main with body := [1,2,3,4,5,6,8,9,11,12,13,14,15,16,17,18,19,21,22,23,24,25,26,27,28,29,30,31,32,33,34,35,36].filterMap fun i => PySem.Challenge.pw_hearsay_k12_faults_in_order.main.body[i]? } }
local macro_rules | `(tactic| o_head $H) => `(tactic| (refine holds_open (q := My.view) (loose := []) (Xt := fun s => xlAt My.view [] s && recOk PySem.Challenge.rw_hearsay_k12_faults_in_order.row.records s) (XP := XL My.view []) (Yf := Hook.obs $H) (Ya := Hook.val $H) (YP := Hook.says $H) (N := 4400) ?hl (Hook.of $H) (Hook.keeps $H) (fun s e => xl_of s (Bool.and_eq_true_iff.mp e).1) XL.keeps (by rfl) (by rfl) (by rfl) (fun s e => recFacts_of (Bool.and_eq_true_iff.mp e).2) (by rfl) (by assumption) (by decide +kernel) ⟨rfl, rfl, rfl, rfl, rfl, by decide +kernel⟩ ?hw ?hc; (case hl => (intro w; kernel_rfl)); (case hw => w_witness2)))
set_option maxRecDepth 100000 in
set_option maxHeartbeats 0 in
theorem PySem.Challenge.cw_hearsay_k12_faults_in_order_holds : PySem.Challenge.rw_hearsay_k12_faults_in_order.Holds := by
  w_on; refine holds_law (by decide +kernel) fun said => ?_; k_head
  k_fill
  refine My.walk (l := PySem.Challenge.rw_hearsay_k12_faults_in_order) rfl rfl (fun w h Y => PySem.W.kIn_of Y) ?F
  case F =>
    intro w mg fa h KX G hmg
    refine' My.all_mk KX G hmg ?a0 ?l0 ?c0 ?k0 ?a1 ?l1 ?c1 ?k1 ?a2 ?l2 ?c2 ?k2 ?a3 ?l3 ?c3 ?k3 ?a4 ?l4 ?c4 ?k4 ?a5 ?l5 ?c5 ?k5 ?a6 ?l6 ?c6 ?k6 ?a7 ?l7 ?c7 ?k7 ?a8 ?l8 ?c8 ?k8 ?a9 ?l9 ?c9 ?k9 ?a10 ?l10 ?c10 ?k10 ?a11 ?l11 ?c11 ?k11 ?a12 ?l12 ?c12 ?k12 ?a13 ?l13 ?c13 ?k13 ?a14 ?l14 ?c14 ?k14 ?a15 ?l15 ?c15 ?k15 ?a16 ?l16 ?c16 ?k16 ?a17 ?l17 ?c17 ?k17 ?a18 ?l18 ?c18 ?k18 ?a19 ?l19 ?c19 ?k19 ?a20 ?l20 ?c20 ?k20 ?a21 ?l21 ?c21 ?k21 ?a22 ?l22 ?c22 ?k22 ?a23 ?l23 ?c23 ?k23 ?a24 ?l24 ?c24 ?k24 ?a25 ?l25 ?c25 ?k25 ?z_abs ?z_int ?z_isinstance ?z_len ?z_list ?z_max ?z_min ?z_range ?z_set ?w_LAST_BOUND ?n_HearError ?n_NoNet ?n_NoPath ?n_OutOfTime ?n_Twice ?n_TooLate ?z_ValueError ?x_sh ?x_th ?x_mh ?x_cn ?x_ct ?x_ek_NoPath ?x_ns_NoPath ?x_ga_NoPath ?x_gt_NoPath ?x_be_NoPath ?x_ob_NoPath ?x_ha_NoPath ?kt_NoPath_NoPath ?kt_NoPath_OutOfTime ?kt_NoPath_Twice ?kt_NoPath_TooLate ?kt_NoPath_NoNet ?kt_NoPath_ve ?x_ek_OutOfTime ?x_ns_OutOfTime ?x_ga_OutOfTime ?x_gt_OutOfTime ?x_be_OutOfTime ?x_ob_OutOfTime ?x_ha_OutOfTime ?kt_OutOfTime_NoPath ?kt_OutOfTime_OutOfTime ?kt_OutOfTime_Twice ?kt_OutOfTime_TooLate ?kt_OutOfTime_NoNet ?kt_OutOfTime_ve ?x_ek_Twice ?x_ns_Twice ?x_ga_Twice ?x_gt_Twice ?x_be_Twice ?x_ob_Twice ?x_ha_Twice ?kt_Twice_NoPath ?kt_Twice_OutOfTime ?kt_Twice_Twice ?kt_Twice_TooLate ?kt_Twice_NoNet ?kt_Twice_ve ?x_ek_TooLate ?x_ns_TooLate ?x_ga_TooLate ?x_gt_TooLate ?x_be_TooLate ?x_ob_TooLate ?x_ha_TooLate ?kt_TooLate_NoPath ?kt_TooLate_OutOfTime ?kt_TooLate_Twice ?kt_TooLate_TooLate ?kt_TooLate_NoNet ?kt_TooLate_ve
    (case a0 => k_is)
    (case l0 => k_is)
    (case c0 => k_is)
    (case k0 => k_is)
    (case a1 => k_is)
    (case l1 => k_is)
    (case c1 => k_is)
    (case k1 => k_is)
    (case a2 => k_is)
    (case l2 => k_is)
    (case c2 => k_is)
    (case k2 => k_is)
    (case a3 => k_is)
    (case l3 => k_is)
    (case c3 => k_is)
    (case k3 => k_is)
    (case a4 => k_is)
    (case l4 => k_is)
    (case c4 => k_is)
    (case k4 => k_is)
    (case a5 => k_is)
    (case l5 => k_is)
    (case c5 => k_is)
    (case k5 => k_is)
    (case a6 => k_is)
    (case l6 => k_is)
    (case c6 => k_is)
    (case k6 => k_is)
    (case a7 => k_is)
    (case l7 => k_is)
    (case c7 => k_is)
    (case k7 => k_is)
    (case a8 => k_is)
    (case l8 => k_is)
    (case c8 => k_is)
    (case k8 => k_is)
    (case a9 => k_is)
    (case l9 => k_is)
    (case c9 => k_is)
    (case k9 => k_is)
    (case a10 => k_is)
    (case l10 => k_is)
    (case c10 => k_is)
    (case k10 => k_is)
    (case a11 => k_is)
    (case l11 => k_is)
    (case c11 => k_is)
    (case k11 => k_is)
    (case a12 => k_is)
    (case l12 => k_is)
    (case c12 => k_is)
    (case k12 => k_is)
    (case a13 => k_is)
    (case l13 => k_is)
    (case c13 => k_is)
    (case k13 => k_is)
    (case a14 => k_is)
    (case l14 => k_is)
    (case c14 => k_is)
    (case k14 => k_is)
    (case a15 => k_is)
    (case l15 => k_is)
    (case c15 => k_is)
    (case k15 => k_is)
    (case a16 => k_is)
    (case l16 => k_is)
    (case c16 => k_is)
    (case k16 => k_is)
    (case a17 => k_is)
    (case l17 => k_is)
    (case c17 => k_is)
    (case k17 => k_is)
    (case a18 => k_is)
    (case l18 => k_is)
    (case c18 => k_is)
    (case k18 => k_is)
    (case a19 => k_is)
    (case l19 => k_is)
    (case c19 => k_is)
    (case k19 => k_is)
    (case a20 => k_is)
    (case l20 => k_is)
    (case c20 => k_is)
    (case k20 => k_is)
    (case a21 => k_is)
    (case l21 => k_is)
    (case c21 => k_is)
    (case k21 => k_is)
    (case a22 => k_is)
    (case l22 => k_is)
    (case c22 => k_is)
    (case k22 => k_is)
    (case a23 => k_is)
    (case l23 => k_is)
    (case c23 => k_is)
    (case k23 => k_is)
    (case a24 => k_is)
    (case l24 => k_is)
    (case c24 => k_is)
    (case k24 => k_is)
    (case a25 => k_is)
    (case l25 => k_is)
    (case c25 => k_is)
    (case k25 => k_is)
    (case z_abs => k_is)
    (case z_int => k_is)
    (case z_isinstance => k_is)
    (case z_len => k_is)
    (case z_list => k_is)
    (case z_max => k_is)
    (case z_min => k_is)
    (case z_range => k_is)
    (case z_set => k_is)
    (case w_LAST_BOUND => k_is)
    (case n_HearError => k_is)
    (case n_NoNet => k_is)
    (case n_NoPath => k_is)
    (case n_OutOfTime => k_is)
    (case n_Twice => k_is)
    (case n_TooLate => k_is)
    (case z_ValueError => k_is)
    (case x_sh => k_is)
    (case x_th => k_is)
    (case x_mh => k_is)
    (case x_cn => k_is)
    (case x_ct => k_is)
    (case x_ek_NoPath => k_exc)
    (case x_ns_NoPath => k_is)
    (case x_ga_NoPath => k_is)
    (case x_gt_NoPath => k_is)
    (case x_be_NoPath => k_is)
    (case x_ob_NoPath => k_is)
    (case x_ha_NoPath => k_is)
    (case kt_NoPath_NoPath => kit_is)
    (case kt_NoPath_OutOfTime => kit_is)
    (case kt_NoPath_Twice => kit_is)
    (case kt_NoPath_TooLate => kit_is)
    (case kt_NoPath_NoNet => kit_is)
    (case kt_NoPath_ve => kit_is)
    (case x_ek_OutOfTime => k_exc)
    (case x_ns_OutOfTime => k_is)
    (case x_ga_OutOfTime => k_is)
    (case x_gt_OutOfTime => k_is)
    (case x_be_OutOfTime => k_is)
    (case x_ob_OutOfTime => k_is)
    (case x_ha_OutOfTime => k_is)
    (case kt_OutOfTime_NoPath => kit_is)
    (case kt_OutOfTime_OutOfTime => kit_is)
    (case kt_OutOfTime_Twice => kit_is)
    (case kt_OutOfTime_TooLate => kit_is)
    (case kt_OutOfTime_NoNet => kit_is)
    (case kt_OutOfTime_ve => kit_is)
    (case x_ek_Twice => k_exc)
    (case x_ns_Twice => k_is)
    (case x_ga_Twice => k_is)
    (case x_gt_Twice => k_is)
    (case x_be_Twice => k_is)
    (case x_ob_Twice => k_is)
    (case x_ha_Twice => k_is)
    (case kt_Twice_NoPath => kit_is)
    (case kt_Twice_OutOfTime => kit_is)
    (case kt_Twice_Twice => kit_is)
    (case kt_Twice_TooLate => kit_is)
    (case kt_Twice_NoNet => kit_is)
    (case kt_Twice_ve => kit_is)
    (case x_ek_TooLate => k_exc)
    (case x_ns_TooLate => k_is)
    (case x_ga_TooLate => k_is)
    (case x_gt_TooLate => k_is)
    (case x_be_TooLate => k_is)
    (case x_ob_TooLate => k_is)
    (case x_ha_TooLate => k_is)
    (case kt_TooLate_NoPath => kit_is)
    (case kt_TooLate_OutOfTime => kit_is)
    (case kt_TooLate_Twice => kit_is)
    (case kt_TooLate_TooLate => kit_is)
    (case kt_TooLate_NoNet => kit_is)
    (case kt_TooLate_ve => kit_is)


