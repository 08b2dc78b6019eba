import PyProof.Rows.All
import Wide.All
import OpenK.AllK
import Wide.FinOn
import Lean
import PyProof.EqAt
import PyProof.EqKinds
import PyProof.TupleCall
import KE.KSortTup
import PyProof.Rows.CountFlat
import PyProof.SliceStr2
import KE.RegKIsAll
import PySem.Challenge.RW_hearsay_k31_came_both_either
set_option Elab.async false
set_option linter.all false
set_option maxRecDepth 100000
namespace L2
open PySem PySem.Spec PyProof.Rows
noncomputable abbrev Key := Sum Int Str
noncomputable def keyIs : Key → Value → Bool
  | .inl k, v => Value.isInt k v
  | .inr x, v => Value.isStrOf x v
noncomputable def keyH (w : World) : Key → Int
  | .inl k => hashInt k
  | .inr x => hashStr w x
theorem keyIs_shape : ∀ {k : Key} {v : Value}, keyIs k v = true → (∃ i t, k = Sum.inl i ∧ v = Value.int i t) ∨ (∃ x t, k = Sum.inr x ∧ v = Value.str x t)
  | .inl i, v, h => by
    obtain ⟨t, e⟩ := Value.isInt_shape (k := i) (v := v) h
    exact .inl ⟨i, t, rfl, e⟩
  | .inr x, v, h => by
    obtain ⟨t, e⟩ := Value.isStrOf_shape (x := x) (v := v) h
    exact .inr ⟨x, t, rfl, e⟩
theorem keyIs_int (i : Int) (t : Tok) : keyIs (.inl i) (.int i t) = true := by simp [keyIs, Value.isInt]
theorem keyIs_str (x : Str) (t : Tok) : keyIs (.inr x) (.str x t) = true := by simp [keyIs, Value.isStrOf]
theorem key_ll (a b : Int) : decide ((Sum.inl a : Key) = Sum.inl b) = (a == b) := by
  by_cases e : a = b
  · subst e; simp
  · have h : ¬ (Sum.inl a : Key) = Sum.inl b := fun q => e (Sum.inl.inj q)
    rw [decide_eq_false h]
    exact (beq_eq_false_iff_ne.mpr e).symm
theorem key_rr (a b : Str) : decide ((Sum.inr a : Key) = Sum.inr b) = decide (a = b) := by
  by_cases e : a = b
  · subst e; simp
  · have h : ¬ (Sum.inr a : Key) = Sum.inr b := fun q => e (Sum.inr.inj q)
    rw [decide_eq_false h, decide_eq_false e]
theorem key_lr (a : Int) (b : Str) : decide ((Sum.inl a : Key) = Sum.inr b) = false := decide_eq_false (fun q => nomatch q)
theorem key_rl (a : Str) (b : Int) : decide ((Sum.inr a : Key) = Sum.inl b) = false := decide_eq_false (fun q => nomatch q)

noncomputable def mixKind (prog : Program) (w : World) : PySem.KeyKind prog w Key where
  is := keyIs
  hash := keyH w
  inj := fun v a b ha hb => by
    rcases keyIs_shape ha with ⟨i, t, rfl, rfl⟩ | ⟨x, t, rfl, rfl⟩
    · rcases keyIs_shape hb with ⟨j, u, rfl, e⟩ | ⟨y, u, rfl, e⟩
      · injection e with e1 _; rw [e1]
      · exact nomatch e
    · rcases keyIs_shape hb with ⟨j, u, rfl, e⟩ | ⟨y, u, rfl, e⟩
      · exact nomatch e
      · injection e with e1 _; rw [e1]
  byValue := fun k v h => by
    rcases keyIs_shape h with ⟨i, t, rfl, rfl⟩ | ⟨x, t, rfl, rfl⟩ <;> rfl
  pyHash := fun hv h => by
    rcases keyIs_shape hv with ⟨i, t, rfl, rfl⟩ | ⟨x, t, rfl, rfl⟩
    · exact wpAny_pyHash_int h
    · exact wpAny_pyHash_str h
  eqBool := fun hu hv h => by
    rcases keyIs_shape hu with ⟨i, t, rfl, rfl⟩ | ⟨x, t, rfl, rfl⟩
    · rcases keyIs_shape hv with ⟨j, u, rfl, rfl⟩ | ⟨y, u, rfl, rfl⟩
      · rw [key_ll] at h; exact wpAny_eqBool_int h
      · rw [key_lr] at h; exact SeqAt.EqAt.int_str i t y u _ _ _ _ h
    · rcases keyIs_shape hv with ⟨j, u, rfl, rfl⟩ | ⟨y, u, rfl, rfl⟩
      · rw [key_rl] at h; exact SeqAt.EqAt.str_int x t j u _ _ _ _ h
      · rw [key_rr] at h; exact wpAny_eqBool_str h
  «strs» := fun k x t v h => by
    rcases keyIs_shape h with ⟨i, u, rfl, e⟩ | ⟨y, u, rfl, e⟩
    · exact nomatch e
    · injection e with e1 _
      subst e1
      cases v <;> rfl

theorem mixKind_int (prog : Program) (w : World) (i : Int) (t : Tok) : (mixKind prog w).is (.inl i) (.int i t) = true := keyIs_int i t
theorem mixKind_str (prog : Program) (w : World) (x : Str) (t : Tok) : (mixKind prog w).is (.inr x) (.str x t) = true := keyIs_str x t
end L2
namespace L2
open PySem PySem.Spec PyProof.Rows
inductive V where
  | non | bl (b : Bool) | int (i : Int) | str (x : Str) | byt (b : Array UInt8) | flt (b : UInt64) | ref (a : Addr) | ty (n : String)
  deriving DecidableEq

noncomputable def RelV : V → Value → Prop
  | .non, u => u = Value.none
  | .bl b, u => u = Value.bool b
  | .int i, u => ∃ t, u = Value.int i t
  | .str x, u => ∃ t, u = Value.str x t
  | .byt b, u => ∃ t, u = Value.bytes b t
  | .flt b, u => ∃ t, u = Value.float b t
  | .ref a, u => u = Value.ref a
  | .ty n, u => u = Value.type n

noncomputable abbrev Vals : List V → List Value → Prop := Paired RelV
theorem Vals.length {xs : List V} {us : List Value} (r : Vals xs us) : xs.length = us.length := Paired.length r
theorem Vals.get : ∀ {xs : List V} {us : List Value} {i : Nat} {x : V}, Vals xs us → xs[i]? = some x → ∃ u, us[i]? = some u ∧ RelV x u
  | _, _, _, _, .nil, e => by simp at e
  | _, _, 0, _, .cons r _, e => by simp at e; subst e; exact ⟨_, rfl, r⟩
  | _, _, i + 1, x, .cons _ t, e => by
    obtain ⟨u, h1, h2⟩ := Vals.get (i := i) (x := x) t (by simpa using e)
    exact ⟨u, by simpa using h1, h2⟩
theorem Vals.append : ∀ {xs ys : List V} {us ws : List Value}, Vals xs us → Vals ys ws → Vals (xs ++ ys) (us ++ ws)
  | _, _, _, _, .nil, s => s
  | _, _, _, _, .cons r t, s => .cons r (Vals.append t s)
theorem Vals.take : ∀ {xs : List V} {us : List Value} (n : Nat), Vals xs us → Vals (xs.take n) (us.take n)
  | _, _, 0, _ => .nil
  | _, _, _ + 1, .nil => .nil
  | _, _, n + 1, .cons r t => .cons r (Vals.take n t)
theorem Vals.drop : ∀ {xs : List V} {us : List Value} (n : Nat), Vals xs us → Vals (xs.drop n) (us.drop n)
  | _, _, 0, r => r
  | _, _, _ + 1, .nil => .nil
  | _, _, n + 1, .cons _ t => Vals.drop n t
noncomputable def RelO : Option V → Option Value → Prop
  | some v, some u => RelV v u
  | none, none => True
  | _, _ => False
noncomputable def KV {κ : Type} : List (κ × V) → List (κ × Value) → Prop := Paired fun (p : κ × V) (q : κ × Value) => p.1 = q.1 ∧ RelV p.2 q.2

noncomputable def kV : Key → V
  | .inl i => .int i
  | .inr x => .str x

inductive HO where
  /-- a list -/
  | lst (xs : List V)
  /-- a tuple (never changes) -/
  | tup (xs : List V)
  /-- a dict whose keys are ints and texts; one whose keys are tuples of ints and texts (the empty one is both) -/
  | dK (kvs : List (Key × V)) | dT (kvs : List (List Key × V))
  /-- a set of ints: its members, its size -/
  | set (S : Int → Bool) (n : Nat)
  /-- an instance of the class at C, its dict at dx, its attributes -/
  | ins (C dx : Addr) (fs : List (Str × V))
  /-- the dict of the instance at x -/
  | own (x : Addr)
  /-- the dict of an exception -/
  | xd (fs : List (Str × V))
  /-- a bound method, f of x -/
  | met (f x : Addr)
  /-- a range object lo, lo + 1, .. below hi -/
  | rng (lo hi : Int)
  /-- a thing that is known to the object (the script; a dict while a loop walks it): read, never written while it is so -/
  | frz (o : Obj) (u : HO)
  /-- a code object's table -/
  | tbl (ps : Array Value)
  /-- any other thing, by what is true of its one object (a def of one's own: SetO a S n := HO.ext fun h => ..) -/
  | ext (φ : Heap → Prop)

noncomputable abbrev Hp := Addr → Option HO
noncomputable def upd (H : Hp) (a : Addr) (o : HO) : Hp := fun b => if b = a then some o else H b
theorem upd_same {H : Hp} {a : Addr} {o : HO} : upd H a o a = some o := by unfold upd; rw [if_pos rfl]
theorem upd_ne {H : Hp} {a b : Addr} {o : HO} (h : b ≠ a) : upd H a o b = H b := by unfold upd; rw [if_neg h]
theorem ne_of_none {H : Hp} {a b : Addr} {o : HO} (h : H a = some o) (h' : H b = none) : a ≠ b := by
  intro e; subst e; rw [h] at h'; cases h'

section
variable (P : Program) (w : World)
noncomputable def ObjOk (H : Hp) (h : Heap) (a : Addr) : HO → Prop
  | .lst xs => xs.length ≤ sizeLine ∧ ∃ (its : List Value) (n : Nat), Vals xs its ∧ h.get? a = some { cls := .type "list", data := .seq its.toArray n }
  | .tup xs => xs.length ≤ sizeLine ∧ ∃ its : List Value, Vals xs its ∧ IsTup h a its.toArray
  | .dK kvs => kvs.length ≤ sizeLine ∧ (a == sysModules) = false ∧ ∃ vs, KV kvs vs ∧ h.DictOf (mixKind P w) a vs
  | .dT kvs => kvs.length ≤ sizeLine ∧ (a == sysModules) = false ∧ ∃ xs : List (List Key × Addr × Value),
      Paired (fun (p : List Key × V) (q : List Key × Addr × Value) => p.1 = q.1 ∧ H q.2.1 = some (.tup (p.1.map kV)) ∧ RelV p.2 q.2.2) kvs xs ∧
      ∃ o es ep, h.get? a = some o ∧ o.ExactDict ∧ o.data = .dict es ep ∧ es.toList = xs.map (entryOfKey (tupleKind (mixKind P w))) ∧ (xs.map (·.1)).Nodup
  | .set S n => h.SetOf (intKind P w) a S n
  | .ins C dx fs => H dx = some (.own a) ∧ fs.length ≤ 1000 ∧ dx ≠ a ∧ h.get? a = some (PySem.W.instObj C dx) ∧
      ∃ mA, h.Ns1 dx mA ∧ (∀ f, RelO (fs.lookup f) (mA f)) ∧ PySem.Within mA (fs.map (·.1))
  | .own _ => ∃ o, h.get? a = some o
  | .xd fs => ∃ mA, h.Ns1 a mA ∧ ∀ f, RelO (fs.lookup f) (mA f)
  | .rng lo hi => ∃ t u v, h.get? a = some { cls := .type "range", data := .fields #[.int lo t, .int hi u, .int 1 v] }
  | .frz o u => h.get? a = some o ∧ ObjOk H h a u
  | .tbl ps => h.get? a = some { cls := .none, data := .fields ps }
  | .met f x => h.get? a = some (PySem.W.methodObj (.ref f) (.ref x))
  | .ext φ => φ h ∧ (∃ o, h.get? a = some o) ∧ ∀ h1 h2 : Heap, φ h1 → (∀ o, h1.get? a = some o → h2.get? a = some o) → φ h2
noncomputable def HOk (H : Hp) (h : Heap) : Prop := ∀ a o, H a = some o → ObjOk P w H h a o
end
section
variable {P : Program} {w : World} {H H' : Hp} {h h' : Heap} {a : Addr} {o : HO}
theorem ObjOk.lt (x : ObjOk P w H h a o) : a < h.objs.size := by
  cases o with
  | lst xs => obtain ⟨_, _, _, _, e⟩ := x; exact Heap.lt_size e
  | tup xs => obtain ⟨_, _, _, p⟩ := x; exact p.lt
  | dK kvs => obtain ⟨_, _, _, _, o, _, _, e, _⟩ := x; exact Heap.lt_size e
  | dT kvs => obtain ⟨_, _, _, _, o, _, _, e, _⟩ := x; exact Heap.lt_size e
  | set S n => obtain ⟨o, _, _, _, e, _⟩ := x; exact Heap.lt_size e
  | ins C dx fs => obtain ⟨_, _, _, e, _⟩ := x; exact Heap.lt_size e
  | own y => obtain ⟨_, e⟩ := x; exact Heap.lt_size e
  | xd fs => obtain ⟨_, ⟨_, _, _, e, _⟩, _⟩ := x; exact Heap.lt_size e
  | rng lo hi => obtain ⟨_, _, _, e⟩ := x; exact Heap.lt_size e
  | frz ob u => obtain ⟨e, _⟩ := x; exact Heap.lt_size e
  | tbl ps => exact Heap.lt_size (show h.get? a = some _ from x)
  | met f y => exact Heap.lt_size (show h.get? a = some _ from x)
  | ext φ => obtain ⟨_, ⟨_, e⟩, _⟩ := x; exact Heap.lt_size e
theorem Paired.mapP {α β : Type} {F G : α → β → Prop} : ∀ {l₁ : List α} {l₂ : List β}, Paired F l₁ l₂ → (∀ a b, F a b → G a b) → Paired G l₁ l₂
  | _, _, .nil, _ => .nil
  | _, _, .cons r t, f => .cons (f _ _ r) (Paired.mapP t f)
theorem ObjOk.stay (x : ObjOk P w H h a o) (k : ∀ b u, (b = a ∨ H b = some (.own a)) → h.get? b = some u → h'.get? b = some u)
    (ho : ∀ b, H b = some (.own a) → H' b = some (.own a)) (ht : ∀ b xs, H b = some (.tup xs) → H' b = some (.tup xs)) : ObjOk P w H' h' a o := by
  induction o with
  | lst xs => obtain ⟨z, its, n, r, e⟩ := x; exact ⟨z, its, n, r, k _ _ (.inl rfl) e⟩
  | tup xs => obtain ⟨z, its, r, ob, e, c⟩ := x; exact ⟨z, its, r, ob, k _ _ (.inl rfl) e, c⟩
  | dK kvs => obtain ⟨z, y, vs, r, ob, es, ep, e, c⟩ := x; exact ⟨z, y, vs, r, ob, es, ep, k _ _ (.inl rfl) e, c⟩
  | dT kvs =>
    obtain ⟨z, y, xs, r, ob, es, ep, e, c⟩ := x
    exact ⟨z, y, xs, Paired.mapP r fun p q z => ⟨z.1, ht _ _ z.2.1, z.2.2⟩, ob, es, ep, k _ _ (.inl rfl) e, c⟩
  | set S n => obtain ⟨ob, es, ep, t, e, c⟩ := x; exact ⟨ob, es, ep, t, k _ _ (.inl rfl) e, c⟩
  | ins C dx fs =>
    obtain ⟨d, z, ne, e, mA, ⟨od, es, ep, e2, c⟩, r⟩ := x
    exact ⟨ho _ d, z, ne, k _ _ (.inl rfl) e, mA, ⟨od, es, ep, k _ _ (.inr d) e2, c⟩, r⟩
  | own y => obtain ⟨ob, e⟩ := x; exact ⟨ob, k _ _ (.inl rfl) e⟩
  | xd fs => obtain ⟨mA, ⟨od, es, ep, e, c⟩, r⟩ := x; exact ⟨mA, ⟨od, es, ep, k _ _ (.inl rfl) e, c⟩, r⟩
  | rng lo hi => obtain ⟨t, u, v, e⟩ := x; exact ⟨t, u, v, k _ _ (.inl rfl) e⟩
  | frz ob u ih => obtain ⟨e, q⟩ := x; exact ⟨k _ _ (.inl rfl) e, ih q⟩
  | tbl ps =>
    have e : h.get? a = some { cls := .none, data := .fields ps } := x
    show h'.get? a = some { cls := .none, data := .fields ps }
    exact k a _ (.inl rfl) e
  | met f y =>
    have e : h.get? a = some (PySem.W.methodObj (.ref f) (.ref y)) := x
    show h'.get? a = some (PySem.W.methodObj (.ref f) (.ref y))
    exact k a _ (.inl rfl) e
  | ext φ => obtain ⟨p, ⟨o, e⟩, st⟩ := x; exact ⟨st _ _ p fun o q => k _ _ (.inl rfl) q, ⟨o, k _ _ (.inl rfl) e⟩, st⟩
theorem HOk.lt (x : HOk P w H h) (e : H a = some o) : a < h.objs.size := (x a o e).lt
theorem HOk.fresh (x : HOk P w H h) (e : h.objs.size ≤ a) : H a = none := by
  cases q : H a with
  | none => rfl
  | some u => exact absurd (Nat.lt_of_lt_of_le (x.lt q) e) (Nat.lt_irrefl _)
theorem HOk.kept (x : HOk P w H h) (k : ∀ b u, h.get? b = some u → h'.get? b = some u) : HOk P w H h' := fun a o e =>
  (x a o e).stay (fun b u _ q => k b u q) (fun _ q => q) fun _ _ q => q
theorem HOk.laid (x : HOk P w H h) (k : ∀ b u, h.get? b = some u → h'.get? b = some u) (hp : h.objs.size ≤ a) (new : ObjOk P w (upd H a o) h' a o) : HOk P w (upd H a o) h' := fun b u e => by
  have hn := x.fresh hp
  by_cases hb : b = a
  · subst hb; rw [upd_same] at e; cases e; exact new
  · rw [upd_ne hb] at e
    exact (x b u e).stay (fun c v _ q => k c v q) (fun c q => by rw [upd_ne (ne_of_none q hn)]; exact q) fun c xs q => by rw [upd_ne (ne_of_none q hn)]; exact q
end
noncomputable def Rd (H : Hp) (a : Addr) (u : HO) : Prop := H a = some u ∨ ∃ o, H a = some (.frz o u)
theorem Rd.ok {P : Program} {w : World} {H : Hp} {h : Heap} {a : Addr} {u : HO} (r : Rd H a u) (x : HOk P w H h) : ObjOk P w H h a u := by
  rcases r with r | ⟨o, r⟩
  · exact x a u r
  · obtain ⟨_, q⟩ := x a _ r
    exact q
noncomputable def Mut : Option HO → Prop
  | some (.lst _) => True
  | some (.dK _) => True
  | some (.dT _) => True
  | some (.set _ _) => True
  | some (.ins _ _ _) => True
  | some (.ext _) => True
  | _ => False
section
variable {P : Program} {w : World} {H : Hp} {h h' : Heap} {x e : Addr} {o' : HO}
theorem HOk.write (ok : HOk P w H h) (mu : Mut (H x)) (he : e = x ∨ H e = some (.own x)) (k : ∀ b u, b ≠ e → h.get? b = some u → h'.get? b = some u) (heo : ∃ u, h'.get? e = some u)
    (new : ObjOk P w (upd H x o') h' x o') : HOk P w (upd H x o') h' := fun b u q => by
  have nown : ∀ c y, H c = some (.own y) → c ≠ x := fun c y r z => by subst z; rw [r] at mu; exact mu
  have ntup : ∀ c xs, H c = some (.tup xs) → c ≠ x := fun c xs r z => by subst z; rw [r] at mu; exact mu
  by_cases hb : b = x
  · subst hb; rw [upd_same] at q; cases q; exact new
  · rw [upd_ne hb] at q
    by_cases hbe : b = e
    · have q' : H b = some (.own x) := by
        rcases he with z | z
        · exact absurd (hbe.trans z) hb
        · rw [hbe]; exact z
      rw [q] at q'; cases q'
      obtain ⟨v, hv⟩ := heo
      exact ⟨v, by rw [hbe]; exact hv⟩
    · refine (ok b u q).stay (fun c v hc r => k c v ?_ r) (fun c r => by rw [upd_ne (nown c b r)]; exact r) fun c xs r => by rw [upd_ne (ntup c xs r)]; exact r
      rcases hc with rfl | hc
      · exact hbe
      · rintro rfl
        rcases he with z | z
        · exact nown c b hc z
        · rw [hc] at z; cases z; exact hb rfl
end
structure Un (fs ex : List Addr) (H H' : Hp) (h h' : Heap) : Prop where
  keep : ∀ b o, h.get? b = some o → H b = none → b ∉ fs → b ∉ ex → h'.get? b = some o
  slot : ∀ b o, h.get? b = some o → H b = none → b ∈ fs → b ∉ ex → ∃ sl, h'.get? b = some { o with slots := sl }
  free : ∀ b o, h.get? b = some o → H b = none → b ∉ ex → H' b = none
  there : ∀ b o, h.get? b = some o → b ∉ ex → ∃ o', h'.get? b = some o'
  tups : ∀ b xs, H b = some (.tup xs) → H' b = some (.tup xs)
  frzs : ∀ b o u, H b = some (.frz o u) → H' b = some (.frz o u)
  tbls : ∀ b ps, H b = some (.tbl ps) → ∃ more, H' b = some (.tbl (ps ++ more))
section
variable {fs fs' ex ex' : List Addr} {H H1 H2 : Hp} {h h1 h2 h' : Heap} {a x e : Addr} {o : HO}
theorem Un.any (u : Un fs ex H H1 h h1) {b : Addr} {ob : Obj} (q : h.get? b = some ob) (n : H b = none) (hx : b ∉ ex) : ∃ sl, h1.get? b = some { ob with slots := sl } := by
  by_cases hb : b ∈ fs
  · exact u.slot b ob q n hb hx
  · exact ⟨ob.slots, u.keep b ob q n hb hx⟩
theorem Un.kept (k : ∀ b u, h.get? b = some u → h'.get? b = some u) : Un fs ex H H h h' :=
  ⟨fun b ob q _ _ _ => k b ob q, fun b ob q _ _ _ => ⟨ob.slots, k b ob q⟩, fun _ _ _ n _ => n, fun b ob q _ => ⟨ob, k b ob q⟩, fun _ _ q => q, fun _ _ _ q => q, fun _ ps q => ⟨#[], by rw [q]; simp⟩⟩
theorem Un.refl : Un fs ex H H h h := Un.kept fun _ _ q => q
theorem Un.laid (k : ∀ b u, h.get? b = some u → h'.get? b = some u) (hp : h.objs.size ≤ a) (hn : H a = none) : Un fs ex H (upd H a o) h h' where
  keep := fun b u q _ _ _ => k b u q
  slot := fun b u q _ _ _ => ⟨u.slots, k b u q⟩
  free := fun b u q n _ => by rw [upd_ne (Nat.ne_of_lt (Nat.lt_of_lt_of_le (Heap.lt_size q) hp))]; exact n
  there := fun b u q _ => ⟨u, k b u q⟩
  tups := fun b xs q => by rw [upd_ne (ne_of_none q hn)]; exact q
  frzs := fun b u xs q => by rw [upd_ne (ne_of_none q hn)]; exact q
  tbls := fun b ps q => ⟨#[], by rw [upd_ne (ne_of_none q hn), q]; simp⟩
theorem Un.write (mu : Mut (H x)) (he : e = x ∨ H e = some (.own x)) (k : ∀ b u, b ≠ e → h.get? b = some u → h'.get? b = some u) (heo : ∃ u, h'.get? e = some u) : Un fs ex H (upd H x o) h h' := by
  have hx : ∀ b, H b = none → b ≠ x := fun b n z => by subst z; rw [n] at mu; exact mu
  have hb : ∀ b, H b = none → b ≠ e := fun b n z => by
    subst z
    rcases he with r | r
    · exact hx b n r
    · rw [n] at r; cases r
  have hm : ∀ b u, H b = some u → ¬ Mut (some u) → b ≠ x := fun b u q nm z => by subst z; rw [q] at mu; exact nm mu
  refine ⟨fun b u q n _ _ => k b u (hb b n) q, fun b u q n _ _ => ⟨u.slots, k b u (hb b n) q⟩, fun b u q n _ => by rw [upd_ne (hx b n)]; exact n, fun b u q _ => ?_,
    fun b xs q => by rw [upd_ne (hm b _ q fun z => z)]; exact q, fun b u xs q => by rw [upd_ne (hm b _ q fun z => z)]; exact q, fun b ps q => ⟨#[], by rw [upd_ne (hm b _ q fun z => z), q]; simp⟩⟩
  by_cases hbe : b = e
  · subst hbe; exact heo
  · exact ⟨u, k b u hbe q⟩
end
noncomputable def trk (h : Heap) (H : Hp) : List Addr := (List.range h.objs.size).filter fun a => (H a).isSome
noncomputable def hidT (h : Heap) (H : Hp) : Heap := PySem.W.hideAll h (trk h H)
theorem hidT_size (h : Heap) (H : Hp) : (hidT h H).objs.size = h.objs.size := PySem.W.hideAll_size _ _
theorem hidT_get {h : Heap} {H : Hp} {b : Addr} {o : Obj} (e : h.get? b = some o) (n : H b = none) : (hidT h H).get? b = some o :=
  PySem.W.hideAll_get _ e fun hm => by
    have q : (H b).isSome = true := (List.mem_filter.mp hm).2
    rw [n] at q; simp at q
theorem of_hidT {h : Heap} {H : Hp} {b : Addr} {o : Obj} (e : (hidT h H).get? b = some o) : h.get? b = some o ∧ H b = none := by
  have e' : h.get? b = some o := PySem.W.of_hideAll (trk h H) e
  refine ⟨e', ?_⟩
  cases q : H b with
  | none => rfl
  | some x =>
    have hm : b ∈ trk h H := List.mem_filter.mpr ⟨List.mem_range.mpr (Heap.lt_size e'), by simp [q]⟩
    have z : (hidT h H).get? b = none := PySem.W.hideAll_none (trk h H) hm
    rw [z] at e; cases e

noncomputable def allNews (g h : Heap) (L : Addr) : List (Addr × Obj) := (List.range h.objs.size).filterMap fun a => if a = L ∨ (g.get? a).isSome = true then none else (h.get? a).map fun o => (a, o)
noncomputable def rest (g h : Heap) (L d : Addr) : List (Addr × Obj) := (allNews g h L).filter fun p => decide (p.1 ≠ d)
end L2
namespace L2
open PySem PySem.Spec PyProof.Rows
structure Mod (K : PySem.W.Frag) (mg : Str → Option Value) (base : Heap) : Prop where
  kin : K.In base
  glob : base.Ns mainGlobals mg
  blt : ∃ mb, base.Ns builtinsNs mb ∧ ∀ x : Str, x ≠ "__name__" → mb x = bootBuiltins x
  nolimit : base.NoLimit

structure Cx where
  prog : Program
  w : World
  K : PySem.W.Frag
  mg : Str → Option Value
  base : Heap
  A : Around
  N : List Str
  s₀ : Shared
  H₀ : Hp
  env : Env
  outer : List Env
  stack : List Env
  ex : List Addr
  fn : Str → Bool
  calm : Bool
  pn : List (Addr × Obj)
  xe : Value → Shared → Prop
noncomputable def frs (l : List Env) : List Addr := l.filterMap (·.frame)
noncomputable abbrev Cx.fs (X : Cx) : List Addr := frs X.outer

noncomputable def Vis (sc : Scope) (x : Str) : Prop := sc.names.lookup x = some .local ∨ sc.names.lookup x = some .cell ∨ sc.names.lookup x = some .free
noncomputable def Loc (sc : Scope) (x : Str) : Prop := sc.names.lookup x = some .local ∨ sc.names.lookup x = some .cell
noncomputable def Look (env : Env) (h : Heap) (m : Str → Option Value) (x : Str) (u : Value) : Prop :=
  (env.kindOf x = some .local ∧ m x = some u) ∨ ((env.kindOf x = some .cell ∨ env.kindOf x = some .free) ∧ ∃ c, env.cells.lookup x = some c ∧ h.IsCell c (some u))

structure Cx.Ok (X : Cx) : Prop where
  mod : Mod X.K X.mg X.base
  kind : X.env.scope.kind = .function
  glob : X.env.globals = mainGlobals
  blt : X.env.builtins = builtinsNs
  above : X.s₀.heap.objs.size ≤ X.env.locals
  inj : ∀ x y c, X.env.cells.lookup x = some c → X.env.cells.lookup y = some c → x = y
  has : ∀ x, (X.env.kindOf x = some .cell ∨ X.env.kindOf x = some .free) → ∃ c, X.env.cells.lookup x = some c
  cab : ∀ x c, X.fn x = true → X.env.cells.lookup x = some c → X.s₀.heap.objs.size ≤ c
  hd : X.calm = true → X.A.handled = none
  frames : X.A.frames = some X.stack
  stk : X.stack = X.outer ∨ (X.stack = X.env :: X.outer ∧ X.env.frame = some X.env.locals)
  exf : ∀ b ∈ X.ex, b ≠ X.env.locals ∧ ∀ x c, X.env.cells.lookup x = some c → c ≠ b
  bs : ∀ b o, X.base.get? b = some o → X.s₀.heap.get? b = some o ∧ X.H₀ b = none
  bsz : X.base.objs.size ≤ X.s₀.heap.objs.size
  noex : ∀ b o, X.base.get? b = some o → b ∉ X.ex
  exfs : ∀ b ∈ X.ex, b ∉ X.fs
  funs : X.s₀.heap.FunFrames X.base X.outer
  frf : ∀ b ∈ X.fs, X.H₀ b = none

structure Inv (X : Cx) (pins : List (Addr × Obj)) (σ : List (Option V)) (H : Hp) (s : Shared) : Prop where
  ok : X.Ok
  os : s.os = X.s₀.os
  bare : AllBare s.gens
  base : Un X.fs X.ex X.H₀ H X.s₀.heap s.heap
  loc : ∃ m, s.heap.Ns X.env.locals m ∧ ∀ (i : Nat) (x : Str) (v : V), X.N[i]? = some x → σ[i]? = some (some v) → Vis X.env.scope x → ∃ u, RelV v u ∧ Look X.env s.heap m x u
  cell : ∀ x c, X.env.cells.lookup x = some c → ∃ v, s.heap.IsCell c v
  free : H X.env.locals = none
  freeC : ∀ x c, X.env.cells.lookup x = some c → H c = none
  pin : ∀ p ∈ X.pn ++ pins, s.heap.get? p.1 = some p.2 ∧ H p.1 = none ∧ p.1 ≠ X.env.locals ∧ p.1 ∉ X.fs ∧ ∀ v, p.2.data ≠ .cell v
  hok : HOk X.prog X.w H s.heap
  len : σ.length = X.N.length

section
variable {X : Cx} {pins : List (Addr × Obj)} {σ : List (Option V)} {H H' : Hp} {s : Shared} {h' : Heap}
theorem Cx.Ok.nofr (ok : X.Ok) {b : Addr} {o : Obj} (e : X.base.get? b = some o) : b ∉ X.fs := fun hb => by
  have := (ok.funs.mem hb).1
  rw [e] at this; cases this
theorem Inv.bs (I : Inv X pins σ H s) : ∀ b o, X.base.get? b = some o → s.heap.get? b = some o ∧ H b = none := fun b o e =>
  ⟨I.base.keep b o (I.ok.bs b o e).1 (I.ok.bs b o e).2 (I.ok.nofr e) (I.ok.noex b o e), I.base.free b o (I.ok.bs b o e).1 (I.ok.bs b o e).2 (I.ok.noex b o e)⟩
theorem Inv.bk (I : Inv X pins σ H s) : ∀ b o, X.base.get? b = some o → s.heap.get? b = some o := fun b o e => (I.bs b o e).1
theorem Inv.mod (I : Inv X pins σ H s) : Mod X.K X.mg X.base := I.ok.mod
theorem Inv.kIn (I : Inv X pins σ H s) : X.K.In s.heap := I.ok.mod.kin.keeps I.bk
theorem Inv.lt (I : Inv X pins σ H s) : X.env.locals < s.heap.objs.size := let ⟨_, hn, _⟩ := I.loc; hn.lt
theorem Inv.sz (I : Inv X pins σ H s) : X.s₀.heap.objs.size ≤ s.heap.objs.size := Nat.le_trans I.ok.above (Nat.le_of_lt I.lt)
theorem Inv.nofs (I : Inv X pins σ H s) {a : Addr} (h : s.heap.objs.size ≤ a) : a ∉ X.fs := fun hb => by
  obtain ⟨_, o, ho, _⟩ := I.ok.funs.mem hb
  exact absurd (Nat.lt_of_lt_of_le (Heap.lt_size ho) (Nat.le_trans I.sz h)) (Nat.lt_irrefl _)
theorem Inv.cne (I : Inv X pins σ H s) : ∀ x c, X.env.cells.lookup x = some c → c ≠ X.env.locals := fun x c e z => by
  obtain ⟨v, o, ho, hd⟩ := I.cell x c e
  obtain ⟨m, ⟨o', es, ep, ho', hd', _⟩, _⟩ := I.loc
  rw [z, ho'] at ho; cases ho; rw [hd'] at hd; cases hd
theorem Inv.funs (I : Inv X pins σ H s) : s.heap.FunFrames X.base X.outer := by
  have all : ∀ (l : List Env), (∀ b ∈ frs l, b ∈ X.fs) → X.s₀.heap.FunFrames X.base l → s.heap.FunFrames X.base l := by
    intro l
    induction l with
    | nil => intro _ _; trivial
    | cons env r ih =>
      intro hs hl
      obtain ⟨hk, ⟨L, o, hf, hn, ho, hd⟩, hr⟩ := hl
      have hL : L ∈ X.fs := hs L (by unfold frs; rw [List.filterMap_cons, hf]; exact List.mem_cons_self)
      obtain ⟨sl, e⟩ := I.base.slot L o ho (I.ok.frf L hL) hL fun z => I.ok.exfs L z hL
      exact ⟨hk, ⟨L, _, hf, hn, e, hd⟩, ih (fun b hb => hs b (by unfold frs; rw [List.filterMap_cons, hf]; exact List.mem_cons_of_mem _ hb)) hr⟩
  exact all X.outer (fun _ hb => hb) I.ok.funs

theorem Inv.stack (I : Inv X pins σ H s) : s.heap.FunFrames X.base X.stack := by
  rcases I.ok.stk with e | ⟨e, hf⟩
  · rw [e]; exact I.funs
  · rw [e]
    obtain ⟨m, hn, _⟩ := I.loc
    refine .cons (by rw [I.ok.kind]; decide) hf hn ?_ I.funs
    exact Heap.get?_none_of_le (Nat.le_trans I.ok.bsz I.ok.above)
theorem Inv.stkSub (I : Inv X pins σ H s) : ∀ b ∈ frs X.stack, b ∈ X.env.locals :: X.fs := fun b hb => by
  rcases I.ok.stk with e | ⟨e, hf⟩
  · rw [e] at hb; exact List.mem_cons_of_mem _ hb
  · rw [e] at hb
    unfold frs at hb
    rw [List.filterMap_cons, hf] at hb
    exact hb
theorem Inv.stkFree (I : Inv X pins σ H s) : ∀ b ∈ frs X.stack, H b = none := fun b hb => by
  rcases List.mem_cons.mp (I.stkSub b hb) with e | hb
  · rw [e]; exact I.free
  · obtain ⟨_, o, ho, _⟩ := I.ok.funs.mem hb
    exact I.base.free b o ho (I.ok.frf b hb) fun z => I.ok.exfs b z hb

theorem Inv.step {g' : Array GenState} {t' : Nat} {d' : Drawn} {ch : List Addr} (I : Inv X pins σ H s)
    (hch : ∀ b ∈ ch, (b ∈ X.ex ∨ X.s₀.heap.objs.size ≤ b) ∧ b ≠ X.env.locals ∧ (∀ x c, X.env.cells.lookup x = some c → c ≠ b) ∧ ∀ p ∈ X.pn ++ pins, p.1 ≠ b)
    (keep : ∀ b o, b ≠ X.env.locals → b ∉ X.fs → b ∉ ch → s.heap.get? b = some o → H b = none → h'.get? b = some o)
    (slot : ∀ b o, b ≠ X.env.locals → b ∈ X.fs → b ∉ ch → s.heap.get? b = some o → H b = none → ∃ sl, h'.get? b = some { o with slots := sl }) (free : ∀ b o, b ∉ ch → s.heap.get? b = some o → H b = none → H' b = none)
    (there : ∀ b o, b ∉ ch → s.heap.get? b = some o → ∃ o', h'.get? b = some o')
    (tups : ∀ b xs, H b = some (.tup xs) → H' b = some (.tup xs)) (frzs : ∀ b o u, H b = some (.frz o u) → H' b = some (.frz o u)) (tbls : ∀ b ps, H b = some (.tbl ps) → ∃ more, H' b = some (.tbl (ps ++ more)))
    (ns : ∀ m, s.heap.Ns X.env.locals m → h'.Ns X.env.locals m) (hok : HOk X.prog X.w H' h') (hg : AllBare g') :
    Inv X pins σ H' { s with heap := h', gens := g', drawn := d', toks := t' } := by
  have neL : ∀ b o, X.s₀.heap.get? b = some o → b ≠ X.env.locals := fun b o e => Nat.ne_of_lt (Nat.lt_of_lt_of_le (Heap.lt_size e) I.ok.above)
  have neC : ∀ b o, X.s₀.heap.get? b = some o → b ∉ X.ex → b ∉ ch := fun b o e hx hb => by
    rcases (hch b hb).1 with z | z
    · exact hx z
    · exact absurd (Nat.lt_of_lt_of_le (Heap.lt_size e) z) (Nat.lt_irrefl _)
  have cellK : ∀ x c, X.env.cells.lookup x = some c → ∀ v, s.heap.IsCell c v → h'.IsCell c v := fun x c e v ⟨o, ho, hd⟩ => by
    have nch : c ∉ ch := fun z => (hch c z).2.2.1 x c e rfl
    by_cases hc : c ∈ X.fs
    · obtain ⟨sl, q⟩ := slot c o (I.cne x c e) hc nch ho (I.freeC x c e)
      exact ⟨_, q, hd⟩
    · exact ⟨o, keep c o (I.cne x c e) hc nch ho (I.freeC x c e), hd⟩
  refine ⟨I.ok, I.os, hg, ⟨fun b o e n hb hx => ?_, fun b o e n hb hx => ?_, fun b o e n hx => ?_, fun b o e hx => ?_, fun b xs e => tups b xs (I.base.tups b xs e), fun b o xs e => frzs b o xs (I.base.frzs b o xs e), fun b ps e => ?_⟩, ?_, fun x c e => ?_, ?_, fun x c e => ?_, fun p hp => ?_, hok, I.len⟩
  · exact keep b o (neL b o e) hb (neC b o e hx) (I.base.keep b o e n hb hx) (I.base.free b o e n hx)
  · obtain ⟨sl, e1⟩ := I.base.slot b o e n hb hx
    obtain ⟨sl', e2⟩ := slot b _ (neL b o e) hb (neC b o e hx) e1 (I.base.free b o e n hx)
    exact ⟨sl', e2⟩
  · obtain ⟨o', e1⟩ := I.base.there b o e hx
    exact free b o' (neC b o e hx) e1 (I.base.free b o e n hx)
  · obtain ⟨o', e1⟩ := I.base.there b o e hx
    exact there b o' (neC b o e hx) e1
  · obtain ⟨m1, e1⟩ := I.base.tbls b ps e
    obtain ⟨m2, e2⟩ := tbls b _ e1
    exact ⟨m1 ++ m2, by rw [e2, Array.append_assoc]⟩
  · obtain ⟨m, hn, hl⟩ := I.loc
    refine ⟨m, ns m hn, fun i x v e1 e2 e3 => ?_⟩
    obtain ⟨u, r, l⟩ := hl i x v e1 e2 e3
    refine ⟨u, r, ?_⟩
    rcases l with l | ⟨k, c, e, z⟩
    · exact .inl l
    · exact .inr ⟨k, c, e, cellK x c e _ z⟩
  · obtain ⟨v, z⟩ := I.cell x c e
    exact ⟨v, cellK x c e v z⟩
  · obtain ⟨m, ⟨o, _, _, ho, _⟩, _⟩ := I.loc
    exact free _ o (fun z => (hch _ z).2.1 rfl) ho I.free
  · obtain ⟨v, o, ho, hd⟩ := I.cell x c e
    exact free c o (fun z => (hch c z).2.2.1 x c e rfl) ho (I.freeC x c e)
  · obtain ⟨e, n, ne, nf, d⟩ := I.pin p hp
    have nch : p.1 ∉ ch := fun z => (hch p.1 z).2.2.2 p hp rfl
    exact ⟨keep p.1 p.2 ne nf nch e n, free p.1 p.2 nch e n, ne, nf, d⟩
theorem Inv.un {t' : Nat} (I : Inv X pins σ H s) (u : Un X.fs [] H H' s.heap h') (hok : HOk X.prog X.w H' h') : Inv X pins σ H' { s with heap := h', toks := t' } := by
  obtain ⟨m, ⟨o, es, ep, ho, r⟩, _⟩ := id I.loc
  obtain ⟨sl, hL⟩ := u.any ho I.free (by simp)
  exact I.step (g' := s.gens) (d' := s.drawn) (ch := []) (fun _ z => nomatch z) (fun b o _ hb _ e n => u.keep b o e n hb (by simp)) (fun b o _ hb _ e n => u.slot b o e n hb (by simp)) (fun b o _ e n => u.free b o e n (by simp)) (fun b o _ e => u.there b o e (by simp)) u.tups u.frzs u.tbls (fun m' hm => by
    obtain ⟨o', es', ep', ho', r'⟩ := hm
    rw [ho] at ho'; cases ho'
    exact ⟨_, es', ep', hL, r'⟩) hok I.bare
theorem Inv.call {g' : Array GenState} {t' : Nat} {d' : Drawn} {ch : List Addr} (I : Inv X pins σ H s) (u : Un (frs X.stack) ch H H' s.heap h') (hok : HOk X.prog X.w H' h') (hg : AllBare g')
    (hch : ∀ b ∈ ch, (b ∈ X.ex ∨ X.s₀.heap.objs.size ≤ b) ∧ b ≠ X.env.locals ∧ (∀ x c, X.env.cells.lookup x = some c → c ≠ b) ∧ ∀ p ∈ X.pn ++ pins, p.1 ≠ b) :
    Inv X pins σ H' { s with heap := h', gens := g', drawn := d', toks := t' } := by
  obtain ⟨m, ⟨o, es, ep, ho, r⟩, _⟩ := id I.loc
  obtain ⟨sl, hL⟩ := u.any ho I.free fun z => (hch _ z).2.1 rfl
  exact I.step (ch := ch) hch (fun b o hL hb hc e n => u.keep b o e n (fun z => (List.mem_cons.mp (I.stkSub b z)).elim hL hb) hc) (fun b o _ _ hc e n => u.any e n hc) (fun b o hc e n => u.free b o e n hc) (fun b o hc e => u.there b o e hc) u.tups u.frzs u.tbls (fun m' hm => by
    obtain ⟨o', es', ep', ho', r'⟩ := hm
    rw [ho] at ho'; cases ho'
    exact ⟨_, es', ep', hL, r'⟩) hok hg
theorem Inv.turned {t' : Nat} {it : Addr} (I : Inv X pins σ H s) (k : ∀ b o, b ≠ it → s.heap.get? b = some o → h'.get? b = some o) (hn : H it = none) (hL : it ≠ X.env.locals)
    (h1 : it ∈ X.ex ∨ X.s₀.heap.objs.size ≤ it) (h2 : ∀ x c, X.env.cells.lookup x = some c → c ≠ it) (h3 : ∀ p ∈ X.pn ++ pins, p.1 ≠ it) : Inv X pins σ H { s with heap := h', toks := t' } := by
  have nit : ∀ b u, H b = some u → b ≠ it := fun b u e z => by rw [z, hn] at e; cases e
  refine I.step (g' := s.gens) (d' := s.drawn) (ch := [it]) (fun b hb => ?_) (fun b o _ _ hc e _ => k b o (fun z => hc (by simp [z])) e) (fun b o _ _ hc e _ => ⟨o.slots, k b o (fun z => hc (by simp [z])) e⟩) (fun _ _ _ _ n => n)
    (fun b o hc e => ⟨o, k b o (fun z => hc (by simp [z])) e⟩) (fun _ _ e => e) (fun _ _ _ e => e) (fun b ps e => ⟨#[], by rw [e]; simp⟩) (fun m hm => ?_) (fun b u e => ?_) I.bare
  · have e : b = it := by simpa using hb
    subst e
    exact ⟨h1, hL, h2, h3⟩
  · obtain ⟨o, es, ep, ho, r⟩ := hm
    exact ⟨o, es, ep, k _ o (Ne.symm hL) ho, r⟩
  · refine (I.hok b u e).stay (fun c v hc q => k c v ?_ q) (fun _ q => q) fun _ _ q => q
    rcases hc with z | z
    · rw [z]; exact nit b u e
    · exact nit c _ z
theorem Inv.tok (I : Inv X pins σ H s) (t : Nat) : Inv X pins σ H { s with toks := t } := I.un (h' := s.heap) (t' := t) Un.refl I.hok
theorem Inv.kept {t' : Nat} (I : Inv X pins σ H s) (k : ∀ b u, s.heap.get? b = some u → h'.get? b = some u) : Inv X pins σ H { s with heap := h', toks := t' } := I.un (Un.kept k) (I.hok.kept k)
theorem Inv.laid {a : Addr} {o : HO} {t' : Nat} (I : Inv X pins σ H s) (k : ∀ b u, s.heap.get? b = some u → h'.get? b = some u) (hp : s.heap.objs.size ≤ a) (new : ObjOk X.prog X.w (upd H a o) h' a o) :
    Inv X pins σ (upd H a o) { s with heap := h', toks := t' } := I.un (Un.laid k hp (I.hok.fresh hp)) (I.hok.laid k hp new)
theorem Inv.write {x e : Addr} {o : HO} {t' : Nat} (I : Inv X pins σ H s) (mu : Mut (H x)) (he : e = x ∨ H e = some (.own x)) (k : ∀ b u, b ≠ e → s.heap.get? b = some u → h'.get? b = some u) (heo : ∃ u, h'.get? e = some u)
    (new : ObjOk X.prog X.w (upd H x o) h' x o) : Inv X pins σ (upd H x o) { s with heap := h', toks := t' } := I.un (Un.write mu he k heo) (I.hok.write mu he k heo new)
theorem Inv.pins_of {pins' : List (Addr × Obj)} (I : Inv X pins σ H s) (h : ∀ p ∈ pins', s.heap.get? p.1 = some p.2 ∧ H p.1 = none ∧ p.1 ≠ X.env.locals ∧ p.1 ∉ X.fs ∧ ∀ v, p.2.data ≠ .cell v) : Inv X pins' σ H s :=
  ⟨I.ok, I.os, I.bare, I.base, I.loc, I.cell, I.free, I.freeC, fun p hp => (List.mem_append.mp hp).elim (fun z => I.pin p (List.mem_append_left _ z)) (h p), I.hok, I.len⟩

theorem nodup_ix {N : List Str} (hN : N.Nodup) {i j : Nat} {x : Str} (a : N[i]? = some x) (b : N[j]? = some x) : i = j := by
  obtain ⟨h1, e1⟩ := List.getElem?_eq_some_iff.mp a
  obtain ⟨h2, e2⟩ := List.getElem?_eq_some_iff.mp b
  exact (List.getElem_inj hN).mp (e1.trans e2.symm)

theorem store_ok2 {M : Model} {A : Around} {E : Value → Shared → Prop} {i : Nat} {x : Str} {v : V} {u : Value} {Q : Unit → Shared → Prop} (I : Inv X pins σ H s) (hN : X.N.Nodup) (hi : X.N[i]? = some x) (hx : Loc X.env.scope x) (r : RelV v u)
    (h : ∀ s', Inv X pins (σ.set i (some v)) H s' → (∃ a, Heap.SameBut a s.heap s'.heap ∧ (a = X.env.locals ∨ X.env.cells.lookup x = some a)) → Q () s') (hf : X.fn x = true ∨ X.env.scope.names.lookup x = some .local := by first | exact .inl rfl | exact .inr rfl | assumption) : wpAny M A (storeName X.env x u) Q E s := by
  obtain ⟨m, hn, hl⟩ := id I.loc
  have hcls : (X.env.scope.kind == .class || (X.env.scope.kind == .module && X.env.locals != X.env.globals)) = false := by rw [I.ok.kind]; rfl
  have hiσ : i < σ.length := by rw [I.len]; exact (List.getElem?_eq_some_iff.mp hi).1
  have cne := I.cne
  have tracked : ∀ {a : Addr} {h' : Heap}, (∃ o, s.heap.get? a = some o ∧ H a = none) → Heap.SameBut a s.heap h' → HOk X.prog X.w H h' := fun {a h'} ha hs b ob e => by
    obtain ⟨_, _, hfree⟩ := ha
    refine (I.hok b ob e).stay (fun c w' hc q => (hs.2 c ?_).trans q) (fun _ q => q) fun _ _ q => q
    rintro rfl
    rcases hc with rfl | hc
    · rw [hfree] at e; cases e
    · rw [hfree] at hc; cases hc
  rcases hx with hk | hk
  · refine wpAny_storeName_local hk hn (fun h' hn' hs => ?_) hcls
    obtain ⟨oL, _, _, hoL, _⟩ := id hn
    refine h _ ⟨I.ok, I.os, I.bare, ⟨fun b o e n hb hx => ?_, fun b o e n hb hx => ?_, I.base.free, fun b o e hx => ?_, I.base.tups, I.base.frzs, I.base.tbls⟩, ⟨_, hn', fun j y v' e1 e2 e3 => ?_⟩, fun y c e => ?_, I.free, I.freeC, fun p hp => ?_, tracked ⟨oL, hoL, I.free⟩ hs, by simpa using I.len⟩ ⟨_, hs, .inl rfl⟩
    · exact (hs.2 b (Nat.ne_of_lt (Nat.lt_of_lt_of_le (Heap.lt_size e) I.ok.above))).trans (I.base.keep b o e n hb hx)
    · obtain ⟨sl, e1⟩ := I.base.slot b o e n hb hx
      exact ⟨sl, (hs.2 b (Nat.ne_of_lt (Nat.lt_of_lt_of_le (Heap.lt_size e) I.ok.above))).trans e1⟩
    · obtain ⟨o', e1⟩ := I.base.there b o e hx
      exact ⟨o', (hs.2 b (Nat.ne_of_lt (Nat.lt_of_lt_of_le (Heap.lt_size e) I.ok.above))).trans e1⟩
    · by_cases hj : j = i
      · subst hj
        rw [hi] at e1; cases e1
        rw [List.getElem?_set_self hiσ] at e2
        cases e2
        exact ⟨u, r, .inl ⟨hk, by simp⟩⟩
      · rw [List.getElem?_set_ne (Ne.symm hj)] at e2
        obtain ⟨u', r', q⟩ := hl j y v' e1 e2 e3
        refine ⟨u', r', ?_⟩
        rcases q with ⟨k, e⟩ | ⟨k, c, e, z⟩
        · refine .inl ⟨k, ?_⟩
          have : y ≠ x := fun e => hj (nodup_ix hN e1 (e ▸ hi))
          simp [this, e]
        · exact .inr ⟨k, c, e, z.sameBut hs (cne y c e)⟩
    · obtain ⟨w', z⟩ := I.cell y c e
      exact ⟨w', z.sameBut hs (cne y c e)⟩
    · obtain ⟨e, n, ne, nf, d⟩ := I.pin p hp
      exact ⟨(hs.2 p.1 ne).trans e, n, ne, nf, d⟩
  · have hfn : X.fn x = true := by
      rcases hf with z | z
      · exact z
      · rw [z] at hk; cases hk
    obtain ⟨c, hc⟩ := I.ok.has x (.inl hk)
    obtain ⟨w', z⟩ := I.cell x c hc
    refine wpAny_storeName_cell I.ok.kind hk hc z (fun h' hc' hs => ?_)
    obtain ⟨oc, hoc, hocd⟩ := id z
    refine h { s with heap := h' } ⟨I.ok, I.os, I.bare, ⟨fun b o e n hb hx => ?_, fun b o e n hb hx => ?_, I.base.free, fun b o e hx => ?_, I.base.tups, I.base.frzs, I.base.tbls⟩, ⟨m, hn.sameBut hs (Ne.symm (cne x c hc)), fun j y v' e1 e2 e3 => ?_⟩, fun y c' e => ?_, I.free, I.freeC, fun p hp => ?_, tracked ⟨oc, hoc, I.freeC x c hc⟩ hs, by simpa using I.len⟩ ⟨c, hs, .inr hc⟩
    · exact (hs.2 b (Nat.ne_of_lt (Nat.lt_of_lt_of_le (Heap.lt_size e) (I.ok.cab x c hfn hc)))).trans (I.base.keep b o e n hb hx)
    · obtain ⟨sl, e1⟩ := I.base.slot b o e n hb hx
      exact ⟨sl, (hs.2 b (Nat.ne_of_lt (Nat.lt_of_lt_of_le (Heap.lt_size e) (I.ok.cab x c hfn hc)))).trans e1⟩
    · obtain ⟨o', e1⟩ := I.base.there b o e hx
      exact ⟨o', (hs.2 b (Nat.ne_of_lt (Nat.lt_of_lt_of_le (Heap.lt_size e) (I.ok.cab x c hfn hc)))).trans e1⟩
    · by_cases hj : j = i
      · subst hj
        rw [hi] at e1; cases e1
        rw [List.getElem?_set_self hiσ] at e2
        cases e2
        exact ⟨u, r, .inr ⟨.inl hk, c, hc, hc'⟩⟩
      · rw [List.getElem?_set_ne (Ne.symm hj)] at e2
        obtain ⟨u', r', q⟩ := hl j y v' e1 e2 e3
        refine ⟨u', r', ?_⟩
        rcases q with q | ⟨k, c', e, z'⟩
        · exact .inl q
        · refine .inr ⟨k, c', e, z'.sameBut hs ?_⟩
          rintro rfl
          exact hj (nodup_ix hN e1 (I.ok.inj _ _ _ e hc ▸ hi))
    · by_cases hcc : c' = c
      · subst hcc; exact ⟨_, hc'⟩
      · obtain ⟨w2, z2⟩ := I.cell y c' e
        exact ⟨w2, z2.sameBut hs hcc⟩
    · obtain ⟨e, n, ne, nf, d⟩ := I.pin p hp
      refine ⟨(hs.2 p.1 ?_).trans e, n, ne, nf, d⟩
      intro q
      rw [q, hoc] at e
      have q' : oc = p.2 := Option.some.inj e
      exact d w' (by rw [← q']; exact hocd)
theorem store_ok {M : Model} {A : Around} {E : Value → Shared → Prop} {i : Nat} {x : Str} {v : V} {u : Value} {Q : Unit → Shared → Prop} (I : Inv X pins σ H s) (hN : X.N.Nodup) (hi : X.N[i]? = some x) (hx : Loc X.env.scope x) (r : RelV v u)
    (h : ∀ s', Inv X pins (σ.set i (some v)) H s' → Q () s') (hf : X.fn x = true ∨ X.env.scope.names.lookup x = some .local := by first | exact .inl rfl | exact .inr rfl | assumption) : wpAny M A (storeName X.env x u) Q E s :=
  store_ok2 I hN hi hx r (fun s' I' _ => h s' I') hf
theorem Inv.call' {s' : Shared} {ch : List Addr} (I : Inv X pins σ H s) (ho : s'.os = s.os) (u : Un (frs X.stack) ch H H' s.heap s'.heap) (hok : HOk X.prog X.w H' s'.heap) (hg : AllBare s'.gens)
    (hch : ∀ b ∈ ch, (b ∈ X.ex ∨ X.s₀.heap.objs.size ≤ b) ∧ b ≠ X.env.locals ∧ (∀ x c, X.env.cells.lookup x = some c → c ≠ b) ∧ ∀ p ∈ X.pn ++ pins, p.1 ≠ b) : Inv X pins σ H' s' := by
  obtain ⟨h', g', d', t', o'⟩ := s'
  have e : o' = s.os := ho
  subst e
  exact I.call (g' := g') (t' := t') (d' := d') u hok hg hch
end
noncomputable abbrev XK := Value → Option Addr → Hp → Prop
noncomputable abbrev St := List (Option V)
noncomputable abbrev VK := V → Hp → Prop
noncomputable abbrev TE := St → Hp → VK → Prop
noncomputable abbrev TT := St → Hp → (Bool → Hp → Prop) → Prop
noncomputable abbrev TA := St → Hp → (List V → Hp → Prop) → Prop
structure Ends where
  nx : St → Hp → Prop
  rt : VK
  bk : St → Hp → Prop := fun _ _ => False
  ct : St → Hp → Prop := fun _ _ => False
noncomputable abbrev TS := Ends → St → Hp → Prop

noncomputable def EP (X : Cx) (pins : List (Addr × Obj)) (σ : St) (Q : VK) (u : Value) (s' : Shared) : Prop := ∃ v H', Inv X pins σ H' s' ∧ RelV v u ∧ Q v H'
noncomputable def TP (X : Cx) (pins : List (Addr × Obj)) (σ : St) (Q : Bool → Hp → Prop) (b : Bool) (s' : Shared) : Prop := ∃ H', Inv X pins σ H' s' ∧ Q b H'
noncomputable def AP (X : Cx) (pins : List (Addr × Obj)) (σ : St) (Q : List V → Hp → Prop) (us : List Value) (s' : Shared) : Prop := ∃ vs H', Inv X pins σ H' s' ∧ Vals vs us ∧ Q vs H'
noncomputable def SP (X : Cx) (pins : List (Addr × Obj)) (D : Ends) (f : Flow) (s' : Shared) : Prop :=
  match f with
  | .next => ∃ σ' H', Inv X pins σ' H' s' ∧ D.nx σ' H'
  | .brk => ∃ σ' H', Inv X pins σ' H' s' ∧ D.bk σ' H'
  | .cont => ∃ σ' H', Inv X pins σ' H' s' ∧ D.ct σ' H'
  | .ret u => ∃ v σ' H', Inv X pins σ' H' s' ∧ RelV v u ∧ D.rt v H'

noncomputable def PE (X : Cx) (e : Expr) (t : TE) : Prop :=
  ∀ (pins : List (Addr × Obj)) (s : Shared) (σ : St) (H : Hp) (Q : VK), Inv X pins σ H s → t σ H Q → wpAny (model X.prog X.w) X.A (eval e X.env) (EP X pins σ Q) X.xe s
noncomputable def PT (X : Cx) (e : Expr) (t : TT) : Prop :=
  ∀ (pins : List (Addr × Obj)) (s : Shared) (σ : St) (H : Hp) (Q : Bool → Hp → Prop), Inv X pins σ H s → t σ H Q → wpAny (model X.prog X.w) X.A (isTrue e X.env (eval e X.env)) (TP X pins σ Q) X.xe s
noncomputable def PW (X : Cx) (e : Expr) (t : TT) : Prop :=
  ∀ (whole : Sem Value) (pins : List (Addr × Obj)) (s : Shared) (σ : St) (H : Hp) (Q : Bool → Hp → Prop), Inv X pins σ H s → t σ H Q → wpAny (model X.prog X.w) X.A (isTrue e X.env whole) (TP X pins σ Q) X.xe s
theorem PW.pt {X : Cx} {e : Expr} {t : TT} (h : PW X e t) : PT X e t := h _
noncomputable def PA (X : Cx) (es : List Expr) (t : TA) : Prop :=
  ∀ (pos : Pos) (pins : List (Addr × Obj)) (s : Shared) (σ : St) (H : Hp) (Q : List V → Hp → Prop), Inv X pins σ H s → t σ H Q → wpAny (model X.prog X.w) X.A (spliced (backTo pos (starEach es X.env))) (AP X pins σ Q) X.xe s
noncomputable def PS (X : Cx) (st : Stmt) (t : TS) : Prop :=
  ∀ (pins : List (Addr × Obj)) (s : Shared) (σ : St) (H : Hp) (D : Ends), Inv X pins σ H s → t D σ H → wpAny (model X.prog X.w) X.A (exec st X.env) (SP X pins D) X.xe s
noncomputable def PSs (X : Cx) (st : List Stmt) (t : TS) : Prop :=
  ∀ (pins : List (Addr × Obj)) (s : Shared) (σ : St) (H : Hp) (D : Ends), Inv X pins σ H s → t D σ H → wpAny (model X.prog X.w) X.A (execs st X.env) (SP X pins D) X.xe s
theorem thn {α : Type} {t : Sem α} {Q Q' : α → Shared → Prop} {M : Model} {A : Around} {E : Value → Shared → Prop} {s : Shared} (h : wpAny M A t Q E s) (hQ : ∀ a s, Q a s → Q' a s) : wpAny M A t Q' E s := wpAny_mono h hQ fun _ _ x => x
end L2
namespace L2
open PySem PySem.Spec PyProof.Rows
section
variable {X : Cx}
noncomputable def tVar (i : Nat) : TE := fun σ H Q => ∃ v, σ[i]? = some (some v) ∧ Q v H
noncomputable def tC (v : V) : TE := fun _ H Q => Q v H
theorem pe_var {i : Nat} {x : Str} {pos : Pos} (hN : X.N[i]? = some x) (hv : Vis X.env.scope x) (hd : (x == ("__debug__" : Str)) = false := by decide) (hcd : (x == ("__classdict__" : Str)) = false := by decide) : PE X (.Name x pos) (tVar i) := by
  intro pins s σ H Q I h
  obtain ⟨v, e, h⟩ := h
  obtain ⟨m, hn, hl⟩ := I.loc
  obtain ⟨u, r, l⟩ := hl i x v hN e hv
  have fin : EP X pins σ Q u s := ⟨v, H, I, r, h⟩
  rcases l with ⟨hk, hm⟩ | ⟨hk, c, hc, hcell⟩
  · exact wpAny_Name (wpAny_loadName_local I.ok.kind hk hn hm fin) hd
  · rcases hk with hk | hk
    · exact wpAny_Name (wpAny_loadName_cell I.ok.kind hk hc hcell fin) hd
    · exact wpAny_Name (wpAny_loadName_free I.ok.kind hk hc hcell fin hcd) hd
theorem pe_int {i j pos} : PE X (.Constant (.int i) j pos) (tC (.int i)) := fun _ _ _ H _ I h => wpAny_Constant_int ⟨.int i, H, I.tok _, ⟨_, rfl⟩, h⟩
theorem pe_bl {b j pos} : PE X (.Constant (.bool b) j pos) (tC (.bl b)) := fun _ _ _ H _ I h => Constant_bool ⟨.bl b, H, I, rfl, h⟩
theorem pe_non {j pos} : PE X (.Constant .none j pos) (tC .non) := fun _ _ _ H _ I h => Constant_none ⟨.non, H, I, rfl, h⟩
theorem pe_str {x j pos} : PE X (.Constant (.str x) j pos) (tC (.str x)) := fun _ _ _ H _ I h => Calls.Constant_str ⟨.str x, H, I.tok _, ⟨_, rfl⟩, h⟩

noncomputable def Gl (X : Cx) (x : Str) : Prop := X.env.kindOf x = some .globalImplicit
theorem ld_glob {E : Value → Shared → Prop} {pins : List (Addr × Obj)} {s : Shared} {σ : St} {H : Hp} {x : Str} {u : Value} {pos : Pos} {Q : Value → Shared → Prop} (I : Inv X pins σ H s) (hg : Gl X x) (hm : X.mg x = some u) (h : Q u s)
    (hd : (x == ("__debug__" : Str)) = false := by decide) : wpAny (model X.prog X.w) X.A (eval (.Name x pos) X.env) Q E s :=
  Calls.Name_function_global I.ok.kind hg (Calls.loadGlobal_global (by rw [I.ok.glob]; exact I.mod.glob.keeps I.bk) hm h) hd
theorem ld_blt {E : Value → Shared → Prop} {pins : List (Addr × Obj)} {s : Shared} {σ : St} {H : Hp} {x : Str} {u : Value} {pos : Pos} {Q : Value → Shared → Prop} (I : Inv X pins σ H s) (hg : Gl X x) (hm : X.mg x = none) (hv : bootBuiltins x = some u) (h : Q u s)
    (hn : x ≠ "__name__" := by decide) (hd : (x == ("__debug__" : Str)) = false := by decide) : wpAny (model X.prog X.w) X.A (eval (.Name x pos) X.env) Q E s := by
  obtain ⟨mb, h1, h2⟩ := I.mod.blt
  exact Calls.Name_function_global I.ok.kind hg (Calls.loadGlobal_builtin (by rw [I.ok.glob]; exact I.mod.glob.keeps I.bk) hm (by rw [I.ok.blt]; exact h1.keeps I.bk) ((h2 x hn).trans hv) h) hd
theorem pe_glob {x : Str} {v : V} {u : Value} {pos : Pos} (hg : Gl X x) (hm : X.mg x = some u) (r : RelV v u) (hd : (x == ("__debug__" : Str)) = false := by decide) : PE X (.Name x pos) (tC v) :=
  fun _ _ _ H _ I h => ld_glob I hg hm ⟨v, H, I, r, h⟩ hd
theorem pe_bltn {x : Str} {v : V} {u : Value} {pos : Pos} (hg : Gl X x) (hm : X.mg x = none) (hv : bootBuiltins x = some u) (r : RelV v u) (hn : x ≠ "__name__" := by decide) (hd : (x == ("__debug__" : Str)) = false := by decide) : PE X (.Name x pos) (tC v) :=
  fun _ _ _ H _ I h => ld_blt I hg hm hv ⟨v, H, I, r, h⟩ hn hd

variable {a b : Expr} {ta tb : TE} {pos : Pos}
noncomputable def tB (t : TE) : TT := fun σ H Q => t σ H fun x H1 => ∃ c, x = .bl c ∧ Q c H1
theorem pt_val {e : Expr} {t : TE} (h : PE X e t) (he : ∀ whole, isTrue e X.env whole = (do let v ← whole; standAt e.pos; holding [v] (truthy v)) := by intro _; rfl) : PT X e (tB t) := by
  intro pins s σ H Q I hw
  refine isTrue_plain (thn (h pins s σ H _ I hw) fun v s1 ⟨x, H1, I1, r1, q1⟩ => ?_) (he _)
  obtain ⟨d, rfl, q⟩ := q1
  cases r1
  exact wpAny_truthy_bool ⟨H1, I1, q⟩

variable {tA tB' : TT} {rest : List Expr}
noncomputable def tAnd (t u : TT) : TT := fun σ H Q => t σ H fun c H1 => if c = true then u σ H1 Q else Q false H1
noncomputable def tOr (t u : TT) : TT := fun σ H Q => t σ H fun c H1 => if c = true then Q true H1 else u σ H1 Q
noncomputable def tNot (t : TT) : TT := fun σ H Q => t σ H fun c H1 => Q (!c) H1
theorem pw_and1 (ha : PT X a tA) : PW X (.BoolOp .And [a] pos) tA := by
  intro wh pins s σ H Q I h
  refine isTrue_and (thn (ha pins s σ H Q I h) fun c s1 e => ?_)
  cases c with
  | true => exact isTrue_and_nil e
  | false => exact e
theorem pw_or1 (ha : PT X a tA) : PW X (.BoolOp .Or [a] pos) tA := by
  intro wh pins s σ H Q I h
  refine isTrue_or (thn (ha pins s σ H Q I h) fun c s1 e => ?_)
  cases c with
  | false => exact isTrue_or_nil e
  | true => exact e
theorem pw_and (ha : PT X a tA) (hb : PW X (.BoolOp .And (b :: rest) pos) tB') : PW X (.BoolOp .And (a :: b :: rest) pos) (tAnd tA tB') := by
  intro wh pins s σ H Q I h
  refine isTrue_and (thn (ha pins s σ H _ I h) fun c s1 ⟨H1, I1, q1⟩ => ?_)
  cases c with
  | true => exact hb wh pins s1 σ H1 Q I1 q1
  | false => exact ⟨H1, I1, q1⟩
theorem pw_or (ha : PT X a tA) (hb : PW X (.BoolOp .Or (b :: rest) pos) tB') : PW X (.BoolOp .Or (a :: b :: rest) pos) (tOr tA tB') := by
  intro wh pins s σ H Q I h
  refine isTrue_or (thn (ha pins s σ H _ I h) fun c s1 ⟨H1, I1, q1⟩ => ?_)
  cases c with
  | true => exact ⟨H1, I1, q1⟩
  | false => exact hb wh pins s1 σ H1 Q I1 q1
theorem pt_not (ha : PT X a tA) : PT X (.UnaryOp .Not a pos) (tNot tA) := by
  intro pins s σ H Q I h
  exact isTrue_not (ha pins s σ H (fun c H1 => Q (!c) H1) I h)
noncomputable def tAndV (ta tb : TE) : TE := fun σ H Q => ta σ H fun x H1 => ∃ c, x = .bl c ∧ if c = true then tb σ H1 Q else Q (.bl false) H1
noncomputable def tOrV (ta tb : TE) : TE := fun σ H Q => ta σ H fun x H1 => ∃ c, x = .bl c ∧ if c = true then Q (.bl true) H1 else tb σ H1 Q
theorem pe_one {op} {t : TE} (h : PE X a t) : PE X (.BoolOp op [a] pos) t := fun pins s σ H Q I hw => BoolOp_one (h pins s σ H Q I hw)
theorem pe_and (ha : PE X a ta) (hb : PE X (.BoolOp .And (b :: rest) pos) tb) : PE X (.BoolOp .And (a :: b :: rest) pos) (tAndV ta tb) := by
  intro pins s σ H Q I h
  refine BoolOp_and (thn (ha pins s σ H _ I h) fun v s1 ⟨x, H1, I1, r1, q1⟩ => ?_)
  obtain ⟨c, rfl, q1⟩ := q1
  cases r1
  refine wpAny_truthy_bool ?_
  cases c with
  | true => exact hb pins s1 σ H1 Q I1 q1
  | false => exact ⟨.bl false, H1, I1, rfl, q1⟩
theorem pe_or (ha : PE X a ta) (hb : PE X (.BoolOp .Or (b :: rest) pos) tb) : PE X (.BoolOp .Or (a :: b :: rest) pos) (tOrV ta tb) := by
  intro pins s σ H Q I h
  refine BoolOp_or (thn (ha pins s σ H _ I h) fun v s1 ⟨x, H1, I1, r1, q1⟩ => ?_)
  obtain ⟨c, rfl, q1⟩ := q1
  cases r1
  refine wpAny_truthy_bool ?_
  cases c with
  | false => exact hb pins s1 σ H1 Q I1 q1
  | true => exact ⟨.bl true, H1, I1, rfl, q1⟩
noncomputable def tIf (t : TT) (ta tb : TE) : TE := fun σ H Q => t σ H fun c H1 => if c = true then ta σ H1 Q else tb σ H1 Q
theorem pe_ifExp {c : Expr} (hc : PT X c tA) (ha : PE X a ta) (hb : PE X b tb) : PE X (.IfExp c a b pos) (tIf tA ta tb) := by
  intro pins s σ H Q I h
  refine wpAny_IfExp (thn (hc pins s σ H _ I h) fun d s1 ⟨H1, I1, q1⟩ => ?_)
  cases d with
  | true => exact ha pins s1 σ H1 Q I1 q1
  | false => exact hb pins s1 σ H1 Q I1 q1
end
end L2
namespace L2
open PySem PySem.Spec PyProof.Rows
noncomputable def SqL (K : PySem.W.Frag) (H : Hp) (a : Addr) (xs : List V) : Prop :=
  Rd H a (.lst xs) ∨
    ∃ (o : Obj) (its : Array Value) (n : Nat), K.lookup a = some o ∧ o.cls = .type "list" ∧ o.dict = none ∧ o.data = .seq its n ∧ its.size ≤ sizeLine ∧ Vals xs its.toList
noncomputable def SqT (K : PySem.W.Frag) (H : Hp) (a : Addr) (xs : List V) : Prop :=
  Rd H a (.tup xs) ∨
    ∃ (o : Obj) (its : Array Value) (n : Nat), K.lookup a = some o ∧ o.cls = .type "tuple" ∧ o.data = .seq its n ∧ its.size ≤ sizeLine ∧ Vals xs its.toList
noncomputable def absV : Value → Option V
  | .none => some .non
  | .bool b => some (.bl b)
  | .int i _ => some (.int i)
  | .str x _ => some (.str x)
  | .bytes b _ => some (.byt b)
  | .float b _ => some (.flt b)
  | .ref a => some (.ref a)
  | .type n => some (.ty n)
  | _ => none
theorem RelV.abs {x : V} {u : Value} (r : RelV x u) : absV u = some x := by
  cases x with
  | non => cases r; rfl
  | bl _ => cases r; rfl
  | int _ => obtain ⟨t, rfl⟩ := r; rfl
  | str _ => obtain ⟨t, rfl⟩ := r; rfl
  | byt _ => obtain ⟨t, rfl⟩ := r; rfl
  | flt _ => obtain ⟨t, rfl⟩ := r; rfl
  | ref _ => cases r; rfl
  | ty _ => cases r; rfl
theorem RelV.inj {x y : V} {u : Value} (r : RelV x u) (q : RelV y u) : x = y := Option.some.inj (r.abs.symm.trans q.abs)
theorem Vals.inj : ∀ {xs ys : List V} {us : List Value}, Vals xs us → Vals ys us → xs = ys
  | _, _, _, .nil, .nil => rfl
  | _, _, _, .cons r t, .cons r' t' => by rw [r.inj r', Vals.inj t t']
section
variable {X : Cx} {pins : List (Addr × Obj)} {σ : St} {H : Hp} {s : Shared} {a : Addr} {xs ys : List V}
theorem SqL.of {K : PySem.W.Frag} (h : H a = some (.lst xs)) : SqL K H a xs := .inl (.inl h)
theorem SqT.of {K : PySem.W.Frag} (h : H a = some (.tup xs)) : SqT K H a xs := .inl (.inl h)
theorem Inv.list (I : Inv X pins σ H s) (h : SqL X.K H a xs) : ∃ its : List Value, Vals xs its ∧ PlainL s.heap a its.toArray ∧ xs.length ≤ sizeLine := by
  rcases h with h | ⟨o, its, n, hk, hc, hd, hs, hz, r⟩
  · obtain ⟨z, its, n, r, e⟩ := h.ok I.hok
    exact ⟨its, r, ⟨_, n, e, rfl, rfl, rfl⟩, z⟩
  · refine ⟨its.toList, r, ⟨o, n, I.kIn a o hk, hc, hd, by simpa using hs⟩, ?_⟩
    have e := r.length
    simp only [Array.length_toList] at e
    omega
theorem Inv.tuple (I : Inv X pins σ H s) (h : SqT X.K H a xs) : ∃ its : List Value, Vals xs its ∧ IsTup s.heap a its.toArray ∧ xs.length ≤ sizeLine := by
  rcases h with h | ⟨o, its, n, hk, hc, hs, hz, r⟩
  · obtain ⟨z, its, r, p⟩ := h.ok I.hok
    exact ⟨its, r, p, z⟩
  · refine ⟨its.toList, r, ⟨o, I.kIn a o hk, hc, n, by simpa using hs⟩, ?_⟩
    have e := r.length
    simp only [Array.length_toList] at e
    omega
theorem Inv.list_inj (I : Inv X pins σ H s) (h : SqL X.K H a xs) (h' : SqL X.K H a ys) : xs = ys := by
  obtain ⟨its, r, ⟨o, n, e, _, _, d⟩, _⟩ := I.list h
  obtain ⟨its', r', ⟨o', n', e', _, _, d'⟩, _⟩ := I.list h'
  rw [e] at e'; cases e'
  rw [d] at d'
  injection d' with d1 _
  have : its = its' := by simpa using congrArg Array.toList d1
  subst this
  exact r.inj r'
theorem Inv.tuple_inj (I : Inv X pins σ H s) (h : SqT X.K H a xs) (h' : SqT X.K H a ys) : xs = ys := by
  obtain ⟨its, r, ⟨o, e, _, n, d⟩, _⟩ := I.tuple h
  obtain ⟨its', r', ⟨o', e', _, n', d'⟩, _⟩ := I.tuple h'
  rw [e] at e'; cases e'
  rw [d] at d'
  injection d' with d1 _
  have : its = its' := by simpa using congrArg Array.toList d1
  subst this
  exact r.inj r'
end
noncomputable abbrev Cx.wish (X : Cx) (E : Value → Shared → Prop) : Cx := { X with xe := E }
noncomputable abbrev Cx.nox (X : Cx) : Cx := X.wish fun _ _ => False
theorem Cx.Ok.wish {X : Cx} (ok : X.Ok) (E : Value → Shared → Prop) : (X.wish E).Ok :=
  ⟨ok.mod, ok.kind, ok.glob, ok.blt, ok.above, ok.inj, ok.has, ok.cab, ok.hd, ok.frames, ok.stk, ok.exf, ok.bs, ok.bsz, ok.noex, ok.exfs, ok.funs, ok.frf⟩
theorem Cx.Ok.unwish {X : Cx} {E : Value → Shared → Prop} (ok : (X.wish E).Ok) : X.Ok :=
  ⟨ok.mod, ok.kind, ok.glob, ok.blt, ok.above, ok.inj, ok.has, ok.cab, ok.hd, ok.frames, ok.stk, ok.exf, ok.bs, ok.bsz, ok.noex, ok.exfs, ok.funs, ok.frf⟩
section
variable {X : Cx} {pins : List (Addr × Obj)} {σ : St} {H : Hp} {s : Shared} {E : Value → Shared → Prop}
theorem Inv.wish (I : Inv X pins σ H s) (E : Value → Shared → Prop) : Inv (X.wish E) pins σ H s := ⟨I.ok.wish E, I.os, I.bare, I.base, I.loc, I.cell, I.free, I.freeC, I.pin, I.hok, I.len⟩
theorem Inv.unwish (I : Inv (X.wish E) pins σ H s) : Inv X pins σ H s := ⟨I.ok.unwish, I.os, I.bare, I.base, I.loc, I.cell, I.free, I.freeC, I.pin, I.hok, I.len⟩
theorem SP.unwish {D : Ends} {f : Flow} {s' : Shared} (h : SP (X.wish E) pins D f s') : SP X pins D f s' := by
  cases f with
  | next => obtain ⟨σ', H', I, q⟩ := h; exact ⟨σ', H', I.unwish, q⟩
  | brk => obtain ⟨σ', H', I, q⟩ := h; exact ⟨σ', H', I.unwish, q⟩
  | cont => obtain ⟨σ', H', I, q⟩ := h; exact ⟨σ', H', I.unwish, q⟩
  | ret u => obtain ⟨v, σ', H', I, r, q⟩ := h; exact ⟨v, σ', H', I.unwish, r, q⟩
theorem PSs.nox {st : List Stmt} {t : TS} (h : PSs X.nox st t) : PSs X st t := fun pins s σ H D I hw =>
  wpAny_mono (h pins s σ H D (I.wish _) hw) (fun _ _ q => q.unwish) fun _ _ z => False.elim z
end
section
variable {X : Cx} {st : Stmt} {rest : List Stmt} {t u : TS} {e : Expr} {te : TE} {pos : Pos}
noncomputable def tNext : TS := fun D σ H => D.nx σ H
noncomputable def tSeq (t u : TS) : TS := fun D σ H => t { D with nx := u D } σ H
theorem pss_nil : PSs X [] tNext := fun _ _ σ H _ I h => wpAny_execs_nil ⟨σ, H, I, h⟩
theorem pss_cons (h1 : PS X st t) (h2 : PSs X rest u) : PSs X (st :: rest) (tSeq t u) := by
  intro pins s σ H D I h
  refine wpAny_execs_cons (thn (h1 pins s σ H { D with nx := u D } I h) fun f s1 q => ?_)
  cases f with
  | next =>
    obtain ⟨σ', H', I', q⟩ := q
    exact h2 pins s1 σ' H' D I' q
  | ret v => exact q
  | brk => exact q
  | cont => exact q
theorem pss_one (h1 : PS X st t) : PSs X [st] t := by
  intro pins s σ H D I h
  refine wpAny_execs_cons (thn (h1 pins s σ H D I h) fun f s1 q => ?_)
  cases f with
  | next => exact wpAny_execs_nil q
  | ret v => exact q
  | brk => exact q
  | cont => exact q
noncomputable def tCont : TS := fun D σ H => D.ct σ H
theorem ps_continue : PS X (.Continue pos) tCont := fun _ _ σ H _ I h => wpAny_Continue ⟨σ, H, I, h⟩
theorem Inv.quiet {pins : List (Addr × Obj)} {σ : St} {H : Hp} {s : Shared} (I : Inv X pins σ H s) : interactive X.env = false := by simp [interactive, I.ok.kind]
noncomputable def tDrop (te : TE) : TS := fun D σ H => te σ H fun _ H1 => D.nx σ H1
theorem ps_expr (he : PE X e te) (hs : swapsWith e none pos.line X.env = pure false := by rfl) : PS X (.Expr e pos) (tDrop te) := by
  intro pins s σ H D I h
  exact wpAny_Expr_any (thn (he pins s σ H _ I h) fun v s1 ⟨x, H1, I1, r1, q1⟩ => ⟨σ, H1, I1, q1⟩) I.quiet hs
noncomputable def tRet (te : TE) : TS := fun D σ H => te σ H D.rt
theorem ps_ret (he : PE X e te) : PS X (.Return (some e) pos) (tRet te) := by
  intro pins s σ H D I h
  exact wpAny_Return_some (thn (he pins s σ H _ I h) fun v s1 ⟨x, H1, I1, r1, q1⟩ => ⟨x, σ, H1, I1, r1, q1⟩)
noncomputable def tIfS (c : TT) (t u : TS) : TS := fun D σ H => c σ H fun b H1 => if b = true then t D σ H1 else u D σ H1
theorem ps_if {c : Expr} {a b : List Stmt} {tc : TT} (hc : PT X c tc) (ha : PSs X a t) (hb : PSs X b u) : PS X (.If c a b pos) (tIfS tc t u) := by
  intro pins s σ H D I h
  refine wpAny_If (thn (hc pins s σ H _ I h) fun d s1 ⟨H1, I1, q1⟩ => ?_)
  cases d with
  | true => exact ha pins s1 σ H1 D I1 q1
  | false => exact hb pins s1 σ H1 D I1 q1
end
noncomputable abbrev TG := V → St → Hp → (St → Hp → Prop) → Prop
noncomputable abbrev TGs := List V → St → Hp → (St → Hp → Prop) → Prop
noncomputable def PG (X : Cx) (target : Expr) (t : TG) : Prop :=
  ∀ (pins : List (Addr × Obj)) (s : Shared) (σ : St) (H : Hp) (v : V) (u : Value) (Q : St → Hp → Prop), Inv X pins σ H s → RelV v u → t v σ H Q →
    wpAny (model X.prog X.w) X.A (assign target X.env u) (fun _ s' => ∃ σ' H', Inv X pins σ' H' s' ∧ Q σ' H') X.xe s
noncomputable def PGs (X : Cx) (ts : List Expr) (t : TGs) : Prop :=
  ∀ (pins : List (Addr × Obj)) (s : Shared) (σ : St) (H : Hp) (vs : List V) (us : List Value) (Q : St → Hp → Prop), Inv X pins σ H s → Vals vs us → t vs σ H Q →
    wpAny (model X.prog X.w) X.A (assignInOrder ((assignEach ts X.env).map (·.2)) us) (fun _ s' => ∃ σ' H', Inv X pins σ' H' s' ∧ Q σ' H') X.xe s
section
variable {X : Cx} {pos : Pos}
noncomputable def gName (i : Nat) : TG := fun v σ H Q => Q (σ.set i (some v)) H
theorem pg_name {i : Nat} {x : Str} (hN : X.N.Nodup) (hi : X.N[i]? = some x) (hx : Loc X.env.scope x) (hf : X.fn x = true ∨ X.env.scope.names.lookup x = some .local := by first | exact .inl rfl | exact .inr rfl | assumption) : PG X (.Name x pos) (gName i) := by
  intro pins s σ H v u Q I r h
  exact wpAny_assign_Name (store_ok I hN hi hx r (fun s' I' => ⟨_, H, I', h⟩) hf)
noncomputable def gNil : TGs := fun vs σ H Q => vs = [] ∧ Q σ H
noncomputable def gCons (t : TG) (u : TGs) : TGs := fun vs σ H Q => ∃ v r, vs = v :: r ∧ t v σ H fun σ' H' => u r σ' H' Q
theorem pgs_nil : PGs X [] gNil := by
  intro pins s σ H vs us Q I r h
  obtain ⟨e, h⟩ := h
  subst e
  cases r
  exact assignInOrder_nil ⟨σ, H, I, h⟩
theorem pgs_cons {e : Expr} {es : List Expr} {t : TG} {u : TGs} (h1 : PG X e t) (h2 : PGs X es u)
    (hs : (assignEach (e :: es) X.env).map (·.2) = assign e X.env :: (assignEach es X.env).map (·.2) := by rfl) : PGs X (e :: es) (gCons t u) := by
  intro pins s σ H vs us Q I r h
  obtain ⟨v, vr, e1, h⟩ := h
  subst e1
  cases r with
  | cons r rr =>
    rw [hs]
    refine assignInOrder_cons (thn (h1 pins s σ H _ _ _ I r h) fun _ s1 ⟨σ1, H1, I1, q1⟩ => ?_)
    exact h2 pins s1 σ1 H1 _ _ Q I1 rr q1
noncomputable def gTup (K : PySem.W.Frag) (n : Nat) (t : TGs) : TG := fun v σ H Q => ∃ a xs, v = .ref a ∧ SqT K H a xs ∧ xs.length = n ∧ t xs σ H Q
theorem pg_tup {es : List Expr} {k : Nat} {t : TGs} {n : Nat} (hc : X.calm = true) (h : PGs X es t)
    (hn : (assignEach es X.env).length = n := by rfl) (hst : (assignEach es X.env).findIdx? (·.1) = none := by rfl) : PG X (.Tuple es k pos) (gTup X.K n t) := by
  intro pins s σ H v u Q I r hw
  obtain ⟨a, xs, e1, hq, hl, hw⟩ := hw
  subst e1
  cases r
  obtain ⟨its, rv, ht, hz⟩ := I.tuple hq
  refine assign_Tuple_tuple (I.ok.hd hc) ht (by simp [hn, ← hl, rv.length]) hst fun h' hx => ?_
  have I1 : Inv X pins σ H { s with heap := h' } := I.kept (t' := s.toks) fun b o e => hx b o (Nat.ne_of_lt (Heap.lt_size e)) e
  exact h pins _ σ H xs _ Q I1 (by simpa using rv) hw
noncomputable def tAsg (te : TE) (g : TG) : TS := fun D σ H => te σ H fun x H1 => g x σ H1 D.nx
theorem ps_set {i : Nat} {x : Str} {e : Expr} {te : TE} {pos' : Pos} (hN : X.N.Nodup) (hi : X.N[i]? = some x) (hx : Loc X.env.scope x) (he : PE X e te) (hs : swapsWith e (some (.Name x pos')) pos.line X.env = pure false := by rfl) (hf : X.fn x = true ∨ X.env.scope.names.lookup x = some .local := by first | exact .inl rfl | exact .inr rfl | assumption) :
    PS X (.Assign [.Name x pos'] e pos) (tAsg te (gName i)) := by
  intro pins s σ H D I h
  refine wpAny_Assign_Name (thn (he pins s σ H _ I h) fun v s1 ⟨y, H1, I1, r1, q1⟩ => ?_) hs
  exact store_ok I1 hN hi hx r1 (fun s2 I2 => ⟨_, H1, I2, q1⟩) hf
end
section
variable {X : Cx} {pos : Pos}
end
structure It where
  go : Nat → Hp → Prop
  yld : Nat → Hp → V → Hp → Prop
  stop : Nat → Hp → Prop
noncomputable def FpOk (X : Cx) (pins : List (Addr × Obj)) (H : Hp) (b : Addr) : Prop :=
  H b = none ∧ b ≠ X.env.locals ∧ b ∉ X.fs ∧ (b ∈ X.ex ∨ X.s₀.heap.objs.size ≤ b) ∧ (∀ x c, X.env.cells.lookup x = some c → c ≠ b) ∧ ∀ p ∈ X.pn ++ pins, p.1 ≠ b
theorem Inv.fpOk {X : Cx} {pins : List (Addr × Obj)} {σ : St} {H H' : Hp} {s : Shared} {b : Addr} (I : Inv X pins σ H s) (hb : s.heap.objs.size ≤ b) (hn : H' b = none) : FpOk X pins H' b := by
  refine ⟨hn, Nat.ne_of_gt (Nat.lt_of_lt_of_le I.lt hb), I.nofs hb, .inr (Nat.le_trans I.sz hb), fun x c e z => ?_, fun p hp z => ?_⟩
  · obtain ⟨v, q⟩ := I.cell x c e
    exact absurd (Nat.lt_of_lt_of_le q.lt (by rw [z]; exact hb)) (Nat.lt_irrefl _)
  · exact absurd (Nat.lt_of_lt_of_le (Heap.lt_size (I.pin p hp).1) (by rw [z]; exact hb)) (Nat.lt_irrefl _)
structure Turn (P : Program) (w : World) (K : PySem.W.Frag) (tg : Expr) (J : It) (fp : List Addr) (it : Addr) (tn : Nat → Heap → Prop) : Prop where
  mem : it ∈ fp
  obj : ∀ i h, tn i h → ∀ b ∈ fp, ∃ o, h.get? b = some o ∧ ∀ v, o.data ≠ .cell v
  keep : ∀ i h h', tn i h → (∀ b ∈ fp, ∀ o, h.get? b = some o → h'.get? b = some o) → tn i h'
  item : ∀ (X : Cx), X.prog = P → X.w = w → X.K = K → X.calm = true → ∀ (i : Nat) (pins : List (Addr × Obj)) (s : Shared) (σ : St) (H : Hp) (E : Value → Shared → Prop), Inv X pins σ H s → (∀ b ∈ fp, FpOk X pins H b) → tn i s.heap → J.go i H →
    wpAny (model P w) X.A (pyNext (.ref it)) (fun r s1 => ∃ u, r = some u ∧
      wpAny (model P w) X.A (letOwnedTupleGo tg (.ref it) u) (fun _ s2 => ∃ x H', Inv X pins σ H' s2 ∧ RelV x u ∧ J.yld i H x H' ∧ tn (i + 1) s2.heap ∧ ∀ b ∈ fp, H' b = none) E s1) E s
  done : ∀ (X : Cx), X.prog = P → X.w = w → X.K = K → X.calm = true → ∀ (i : Nat) (pins : List (Addr × Obj)) (s : Shared) (σ : St) (H : Hp) (E : Value → Shared → Prop), Inv X pins σ H s → (∀ b ∈ fp, FpOk X pins H b) → tn i s.heap → J.stop i H →
    wpAny (model P w) X.A (pyNext (.ref it)) (fun r s1 => r = none ∧ Inv X pins σ H s1) E s
  self : ∀ (A : Around) (i : Nat) (s : Shared) (Q : Value → Shared → Prop) (E : Value → Shared → Prop), tn i s.heap → Q (.ref it) s → wpAny (model P w) A (pyIter (.ref it)) Q E s
noncomputable abbrev TI := St → Hp → (It → Hp → Prop) → Prop
noncomputable def PIE (X : Cx) (pins : List (Addr × Obj)) (σ : St) (tg : Expr) (R : It → Hp → Prop) (itv : Value) (s2 : Shared) : Prop :=
  ∃ (it : Addr) (fp : List Addr) (tn : Nat → Heap → Prop) (J : It) (H' : Hp), itv = .ref it ∧ Inv X pins σ H' s2 ∧ Turn X.prog X.w X.K tg J fp it tn ∧ tn 0 s2.heap ∧ (∀ b ∈ fp, FpOk X pins H' b) ∧ R J H'
noncomputable def PI (X : Cx) (tg iter : Expr) (wi : TI) : Prop :=
  ∀ (pins : List (Addr × Obj)) (s : Shared) (σ : St) (H : Hp) (R : It → Hp → Prop), Inv X pins σ H s → wi σ H R →
    wpAny (model X.prog X.w) X.A (eval iter X.env) (fun v s1 => wpAny (model X.prog X.w) X.A (pyIter v) (PIE X pins σ tg R) X.xe s1) X.xe s

theorem go_of {M : Model} {A : Around} {E : Value → Shared → Prop} {s : Shared} {tg : Expr} {it : Addr} {u : Value} {o : Obj} {n : String} {vs : Array Value} {Q : Unit → Shared → Prop} (ho : s.heap.get? it = some o) (hc : o.cls = .type n) (hd : o.data = .fields vs)
    (hn : ["enumerate", "zip", "dict_itemiterator", "dict_reverseitemiterator", "odict_iterator", "itertools.zip_longest", "itertools.pairwise"].contains n = false) (hQ : Q () s) : wpAny M A (letOwnedTupleGo tg (.ref it) u) Q E s := by
  unfold letOwnedTupleGo
  cases tg <;> first
    | exact wpAny_pure hQ
    | (cases u <;> first
        | exact wpAny_pure hQ
        | (refine wpAny_bind (wpAny_load ho ?_)
           rw [hc, hd]
           show wpAny M A (if (["enumerate", "zip", "dict_itemiterator", "dict_reverseitemiterator", "odict_iterator", "itertools.zip_longest", "itertools.pairwise"].contains n && vs[0]? == some (rawInt _)) = true then _ else _) Q E s
           rw [if_neg (by intro h; rw [hn, Bool.false_and] at h; cases h)]
           exact wpAny_pure hQ))

noncomputable def Itl (K : PySem.W.Frag) (a : Addr) : It :=
  ⟨fun i H => ∃ xs x, SqL K H a xs ∧ xs[i]? = some x, fun i H x H' => H' = H ∧ ∀ xs, SqL K H a xs → xs[i]? = some x, fun i H => ∃ xs, SqL K H a xs ∧ xs.length ≤ i⟩
noncomputable def Itt (K : PySem.W.Frag) (a : Addr) : It :=
  ⟨fun i H => ∃ xs x, SqT K H a xs ∧ xs[i]? = some x, fun i H x H' => H' = H ∧ ∀ xs, SqT K H a xs → xs[i]? = some x, fun i H => ∃ xs, SqT K H a xs ∧ xs.length ≤ i⟩
noncomputable def Itr (lo : Int) (n : Nat) : It := ⟨fun i _ => i < n, fun i H x H' => H' = H ∧ x = .int (lo + i), fun i _ => n ≤ i⟩
theorem turn_list {P : Program} {w : World} {K : PySem.W.Frag} {tg : Expr} (a it : Addr) : Turn P w K tg (Itl K a) [it] it (fun i h => h.IsListIter it a i) where
  mem := by simp
  obj := fun i h st b hb => by
    have e : b = it := by simpa using hb
    subst e
    obtain ⟨o, e, c, d⟩ := st
    exact ⟨o, e, fun v z => by rw [d] at z; cases z⟩
  keep := fun i h h' st k => st.at fun o e => k it (by simp) o e
  item := by
    intro X hP hw hK hc i pins s σ H E I hf st hg
    subst hP hw hK
    obtain ⟨xs, x, hq, hx⟩ := hg
    obtain ⟨its, rv, p, hz⟩ := I.list hq
    obtain ⟨u, hu, ru⟩ := rv.get hx
    obtain ⟨f0, f1, f2, f3, f4, f5⟩ := hf it (by simp)
    refine wpAny_pyNext_list_item st p.isList (x := u) (by simpa using hu) fun h' st' sb => ?_
    have I1 : Inv X pins σ H { s with heap := h' } := I.turned (t' := s.toks) (fun b o hb e => (sb.2 b hb).trans e) f0 f1 f3 f4 f5
    obtain ⟨o, e, c, d⟩ := id st'
    exact ⟨u, rfl, go_of (s := { s with heap := h' }) e c d (by decide) ⟨x, H, I1, ru, ⟨rfl, fun ys hy => by rw [I.list_inj hy hq]; exact hx⟩, st', fun b hb => (hf b hb).1⟩⟩
  done := by
    intro X hP hw hK hc i pins s σ H E I hf st hg
    subst hP hw hK
    obtain ⟨xs, hq, hx⟩ := hg
    obtain ⟨its, rv, p, hz⟩ := I.list hq
    obtain ⟨f0, f1, f2, f3, f4, f5⟩ := hf it (by simp)
    have hl := rv.length
    exact wpAny_pyNext_list_end (I.ok.hd hc) st p.isList (by simp; omega) fun h' eb => ⟨rfl, I.turned (t' := s.toks) (fun b o hb e => eb b o hb e) f0 f1 f3 f4 f5⟩
  self := fun _ _ _ _ _ st h => wpAny_pyIter_listiter st h
theorem turn_tuple {P : Program} {w : World} {K : PySem.W.Frag} {tg : Expr} (a it : Addr) : Turn P w K tg (Itt K a) [it] it (fun i h => h.IsTupleIter it a i) where
  mem := by simp
  obj := fun i h st b hb => by
    have e : b = it := by simpa using hb
    subst e
    obtain ⟨o, e, c, d⟩ := st
    exact ⟨o, e, fun v z => by rw [d] at z; cases z⟩
  keep := fun i h h' st k => st.at fun o e => k it (by simp) o e
  item := by
    intro X hP hw hK hc i pins s σ H E I hf st hg
    subst hP hw hK
    obtain ⟨xs, x, hq, hx⟩ := hg
    obtain ⟨its, rv, p, hz⟩ := I.tuple hq
    obtain ⟨u, hu, ru⟩ := rv.get hx
    obtain ⟨f0, f1, f2, f3, f4, f5⟩ := hf it (by simp)
    refine wpAny_pyNext_tuple_item st (show s.heap.IsTuple a its.toArray from p) (x := u) (by simpa using hu) fun h' st' sb => ?_
    have I1 : Inv X pins σ H { s with heap := h' } := I.turned (t' := s.toks) (fun b o hb e => (sb.2 b hb).trans e) f0 f1 f3 f4 f5
    obtain ⟨o, e, c, d⟩ := id st'
    exact ⟨u, rfl, go_of (s := { s with heap := h' }) e c d (by decide) ⟨x, H, I1, ru, ⟨rfl, fun ys hy => by rw [I.tuple_inj hy hq]; exact hx⟩, st', fun b hb => (hf b hb).1⟩⟩
  done := by
    intro X hP hw hK hc i pins s σ H E I hf st hg
    subst hP hw hK
    obtain ⟨xs, hq, hx⟩ := hg
    obtain ⟨its, rv, p, hz⟩ := I.tuple hq
    obtain ⟨f0, f1, f2, f3, f4, f5⟩ := hf it (by simp)
    have hl := rv.length
    exact wpAny_pyNext_tuple_end (I.ok.hd hc) st (show s.heap.IsTuple a its.toArray from p) (by simp; omega) fun h' eb => ⟨rfl, I.turned (t' := s.toks) (fun b o hb e => eb b o hb e) f0 f1 f3 f4 f5⟩
  self := fun _ _ _ _ _ st h => wpAny_pyIter_tupleiter st h
theorem turn_range {P : Program} {w : World} {K : PySem.W.Frag} {tg : Expr} (it : Addr) (lo : Int) (n : Nat) : Turn P w K tg (Itr lo n) [it] it (fun i h => IsRangeIter h it (lo + (i : Nat) * 1) ((n : Int) - (i : Nat)) 1) where
  mem := by simp
  obj := fun i h st b hb => by
    have e : b = it := by simpa using hb
    subst e
    exact ⟨_, st, fun v z => by
      have z' : Data.fields _ = Data.cell v := z
      cases z'⟩
  keep := fun i h h' st k => k it (by simp) _ st
  item := by
    intro X hP hw hK hc i pins s σ H E I hf st hg
    subst hP hw hK
    obtain ⟨f0, f1, f2, f3, f4, f5⟩ := hf it (by simp)
    have W := Walks.range (prog := X.prog) (w := X.w) (I.ok.hd hc) it lo 1 n
    refine W.item i s _ _ hg st fun v h' tk hv st' kk => ?_
    obtain ⟨t, rfl⟩ := hv
    have I1 : Inv X pins σ H { s with heap := h', toks := tk } := I.turned (fun b o hb e => kk b o (by simpa using hb) e) f0 f1 f3 f4 f5
    refine ⟨_, rfl, go_of (s := { s with heap := h', toks := tk }) (n := "range_iterator") st' rfl rfl (by decide) ⟨.int (lo + i), H, I1, ⟨t, ?_⟩, ⟨rfl, rfl⟩, st', fun b hb => (hf b hb).1⟩⟩
    rw [Int.mul_one]
  done := by
    intro X hP hw hK hc i pins s σ H E I hf st hg
    subst hP hw hK
    obtain ⟨f0, f1, f2, f3, f4, f5⟩ := hf it (by simp)
    exact wpAny_pyNext_range_end (I.ok.hd hc) st (by have : n ≤ i := hg; omega) fun h' eb => ⟨rfl, I.turned (t' := s.toks) (fun b o hb e => eb b o hb e) f0 f1 f3 f4 f5⟩
  self := fun _ _ _ _ _ st h => wpAny_pyIter_rangeiter st h
end L2
namespace L2
open PySem PySem.Spec PyProof.Rows
section
variable {X : Cx} {tg : Expr}
noncomputable def iList (K : PySem.W.Frag) (tl : TE) : TI := fun σ H R => tl σ H fun x H1 => ∃ a, x = .ref a ∧ (∃ xs, SqL K H1 a xs) ∧ R (Itl K a) H1
noncomputable def iTup (K : PySem.W.Frag) (tl : TE) : TI := fun σ H R => tl σ H fun x H1 => ∃ a, x = .ref a ∧ (∃ xs, SqT K H1 a xs) ∧ R (Itt K a) H1
theorem pi_list {l : Expr} {tl : TE} (hl : PE X l tl) : PI X tg l (iList X.K tl) := by
  intro pins s σ H R I h
  refine thn (hl pins s σ H _ I h) fun v s1 ⟨x, H1, I1, r1, q1⟩ => ?_
  obtain ⟨a, e, ⟨xs, hq⟩, q⟩ := q1
  subst e
  cases r1
  obtain ⟨its, rv, p, hz⟩ := I1.list hq
  refine wpAny_pyIter_list p.isList ?_
  refine ⟨s1.heap.objs.size, [s1.heap.objs.size], _, _, H1, rfl, I1.kept (t' := s1.toks) fun b o e => Heap.get?_push_of_some _ e, turn_list a _, ⟨_, Heap.get?_push_size _ rfl, rfl, rfl⟩, fun b hb => ?_, q⟩
  have e : b = s1.heap.objs.size := by simpa using hb
  subst e
  exact I1.fpOk (Nat.le_refl _) (I1.hok.fresh (Nat.le_refl _))
theorem pi_tup {l : Expr} {tl : TE} (hl : PE X l tl) : PI X tg l (iTup X.K tl) := by
  intro pins s σ H R I h
  refine thn (hl pins s σ H _ I h) fun v s1 ⟨x, H1, I1, r1, q1⟩ => ?_
  obtain ⟨a, e, ⟨xs, hq⟩, q⟩ := q1
  subst e
  cases r1
  obtain ⟨its, rv, p, hz⟩ := I1.tuple hq
  refine wpAny_pyIter_tuple (show s1.heap.IsTuple a its.toArray from p) ?_
  refine ⟨s1.heap.objs.size, [s1.heap.objs.size], _, _, H1, rfl, I1.kept (t' := s1.toks) fun b o e => Heap.get?_push_of_some _ e, turn_tuple a _, ⟨_, Heap.get?_push_size _ rfl, rfl, rfl⟩, fun b hb => ?_, q⟩
  have e : b = s1.heap.objs.size := by simpa using hb
  subst e
  exact I1.fpOk (Nat.le_refl _) (I1.hok.fresh (Nat.le_refl _))
theorem range_it {pins : List (Addr × Obj)} {σ : St} {H : Hp} {s : Shared} {R : It → Hp → Prop} {E : Value → Shared → Prop} {lo hi : Int} {t u v : Tok} {tk : Nat} (I : Inv X pins σ H s) (h1 : -(2 ^ 62) ≤ lo) (h2 : lo < 2 ^ 62) (h3 : -(2 ^ 62) ≤ hi) (h4 : hi < 2 ^ 62)
    (q : R (Itr lo (hi - lo).toNat) H) : wpAny (model X.prog X.w) X.A (pyIter (.ref s.heap.objs.size)) (PIE X pins σ tg R) E { s with heap := s.heap.push { cls := .type "range", data := .fields #[.int lo t, .int hi u, .int 1 v] }, toks := tk } := by
  refine wpAny_pyIter_range (IsRange.new ..) (small_one h1 h2 h3 h4) ?_
  have I1 : Inv X pins σ H { s with heap := s.heap.push { cls := .type "range", data := .fields #[.int lo t, .int hi u, .int 1 v] }, toks := tk } := I.kept fun b o e => Heap.get?_push_of_some _ e
  refine ⟨(s.heap.push { cls := .type "range", data := .fields #[.int lo t, .int hi u, .int 1 v] }).objs.size, [(s.heap.push { cls := .type "range", data := .fields #[.int lo t, .int hi u, .int 1 v] }).objs.size], _, _, H, rfl,
    I1.kept (t' := tk) fun b o e => Heap.get?_push_of_some _ e, turn_range _ lo (hi - lo).toNat, ?_, fun b hb => ?_, q⟩
  · have e1 : lo + ((0 : Nat) : Int) * 1 = lo := by simp
    have e2 : (((hi - lo).toNat : Nat) : Int) - ((0 : Nat) : Int) = Builtin.Range.rangeSize lo hi 1 := by rw [rangeSize_one]; split <;> omega
    show IsRangeIter _ _ (lo + ((0 : Nat) : Int) * 1) ((((hi - lo).toNat : Nat) : Int) - ((0 : Nat) : Int)) 1
    rw [e1, e2]
    exact Heap.get?_push_size _ rfl
  · have e : b = (s.heap.push { cls := .type "range", data := .fields #[.int lo t, .int hi u, .int 1 v] }).objs.size := by simpa using hb
    subst e
    exact I1.fpOk (Nat.le_refl _) (I1.hok.fresh (Nat.le_refl _))
noncomputable def iRng1 (ta : TA) : TI := fun σ H R => ta σ H fun vs H1 => ∃ j : Int, vs = [.int j] ∧ -(2 ^ 62) ≤ j ∧ j < 2 ^ 62 ∧ R (Itr 0 j.toNat) H1
theorem pi_range1 {a : Expr} {ta : TA} {p pos : Pos} (hg : Gl X "range") (hm : X.mg "range" = none) (ha : PA X [a] ta) (hs : starEach [a] X.env = [(false, eval a X.env)] := by rfl) : PI X tg (.Call (.Name "range" p) [a] [] pos) (iRng1 ta) := by
  intro pins s σ H R I h
  refine Call_ (ld_blt I hg hm boot_range (PyProof.Rows.callWith_type1 (thn (ha pos pins s σ H _ I h) fun us s1 ⟨vs, H1, I1, r1, q1⟩ => ?_) hs rfl))
  obtain ⟨j, e, q1, q2, q⟩ := q1
  subst e
  cases r1 with
  | cons r rr =>
    cases rr
    obtain ⟨t, rfl⟩ := r
    exact call_range_1 (range_it I1 (by omega) (by omega) q1 q2 (by simpa using q))
noncomputable def tFor (wi : TI) (g : TG) (tb : TS) : TS := fun D σ H => wi σ H fun J H1 => ∃ W : Nat → Nat → St → Hp → Prop, (∃ m, W 0 m σ H1) ∧ ∀ i m σ H, W i m σ H →
  (J.stop i H ∧ D.nx σ H) ∨ (J.go i H ∧ ∃ N : St → Hp → Prop, (∀ σ' H', N σ' H' → ∃ m', m' < m ∧ W (i + 1) m' σ' H') ∧ ∀ x H', J.yld i H x H' → g x σ H' fun σ2 H2 => tb { D with nx := N, ct := N, bk := D.nx } σ2 H2)
noncomputable def pinsAt (fp : List Addr) (h : Heap) : List (Addr × Obj) := fp.filterMap fun b => (h.get? b).map fun o => (b, o)
theorem mem_pinsAt {fp : List Addr} {h : Heap} {b : Addr} {o : Obj} (hb : b ∈ fp) (e : h.get? b = some o) : (b, o) ∈ pinsAt fp h := List.mem_filterMap.mpr ⟨b, hb, by rw [e]; rfl⟩
theorem of_pinsAt {fp : List Addr} {h : Heap} {p : Addr × Obj} (hp : p ∈ pinsAt fp h) : p.1 ∈ fp ∧ h.get? p.1 = some p.2 := by
  obtain ⟨b, hb, e⟩ := List.mem_filterMap.mp hp
  cases q : h.get? b with
  | none => rw [q] at e; cases e
  | some o =>
    rw [q] at e
    have e' : (b, o) = p := Option.some.inj e
    subst e'
    exact ⟨hb, q⟩
theorem Inv.pinned {pins : List (Addr × Obj)} {σ : St} {H : Hp} {s : Shared} {fp : List Addr} (I : Inv X pins σ H s) (hf : ∀ b ∈ fp, FpOk X pins H b) (ho : ∀ b ∈ fp, ∃ o, s.heap.get? b = some o ∧ ∀ v, o.data ≠ .cell v) : Inv X (pins ++ pinsAt fp s.heap) σ H s :=
  I.pins_of fun p hp => (List.mem_append.mp hp).elim (fun z => I.pin p (List.mem_append_right _ z)) fun z => by
    obtain ⟨hb, e⟩ := of_pinsAt z
    obtain ⟨f0, f1, f2, _⟩ := hf p.1 hb
    obtain ⟨o, e', d⟩ := ho p.1 hb
    rw [e] at e'; cases e'
    exact ⟨e, f0, f1, f2, d⟩
theorem Inv.unpinned {pins pl : List (Addr × Obj)} {σ : St} {H : Hp} {s : Shared} (I : Inv X (pins ++ pl) σ H s) : Inv X pins σ H s := I.pins_of fun p hp => I.pin p (List.mem_append_right _ (List.mem_append_left _ hp))
theorem ps_for {iter : Expr} {body : List Stmt} {wi : TI} {g : TG} {tb : TS} {pos : Pos} (hp : PassesOwn (model X.prog X.w) X.A X.env X.xe) (hc : X.calm = true) (hi : PI X tg iter wi) (hg : PG X tg g) (hb : PSs X body tb)
    (hs : ∀ x, foldedSetIterable iter X.env x = pure x := by intro _; rfl) : PS X (.For tg iter body [] pos) (tFor wi g tb) := by
  intro pins s σ H D I h
  refine wpAny_For (thn (hi pins s σ H _ I h) fun v s1 h1 => thn h1 fun itv s2 h2 => ?_) hs
  obtain ⟨it, fp, tn, J, H2, e, I2, T, st2, f2, W, ⟨m0, w0⟩, turn⟩ := h2
  subst e
  -- what stays true of the iterator's objects through the loop
  have stat : ∀ {H' : Hp}, (∀ b ∈ fp, H' b = none) → ∀ b ∈ fp, FpOk X pins H' b := fun hn b hb => ⟨hn b hb, (f2 b hb).2⟩
  refine codeAny_forLoop_any (fun n s' => ∃ i σ' H', Inv X pins σ' H' s' ∧ tn i s'.heap ∧ (∀ b ∈ fp, H' b = none) ∧ W i n σ' H') ?_ m0 ⟨0, σ, H2, I2, st2, fun b hb => (f2 b hb).1, w0⟩
  rintro n s3 ⟨i, σ3, H3, I3, st3, fr3, w3⟩
  rcases turn i n σ3 H3 w3 with ⟨stop, qn⟩ | ⟨go, N, hN, step⟩
  · refine wpAny_passesOwn hp (thn (T.done X rfl rfl rfl hc i pins s3 σ3 H3 X.xe I3 (stat fr3) st3 stop) fun r s4 ⟨hr, I4⟩ => ?_)
    subst hr
    exact wpAny_execs_nil ⟨σ3, H3, I4, qn⟩
  · refine wpAny_passesOwn hp (thn (T.item X rfl rfl rfl hc i pins s3 σ3 H3 X.xe I3 (stat fr3) st3 go) fun r s4 ⟨u, hr, h4⟩ => ?_)
    subst hr
    refine wpAny_passesOwn hp (thn h4 fun _ s5 ⟨x, H5, I5, r5, y5, st5, fr5⟩ => ?_)
    have I5' := I5.pinned (stat fr5) (T.obj _ _ st5)
    refine wpAny_passesOwn hp (thn (hg _ s5 σ3 H5 x u _ I5' r5 (step x H5 y5)) fun _ s6 ⟨σ6, H6, I6, q6⟩ => ?_)
    refine wpAny_passesOwn hp (thn (hb _ s6 σ6 H6 _ I6 q6) fun f s7 q7 => ?_)
    have again : ∀ {σ7 : St} {H7 : Hp}, Inv X (pins ++ pinsAt fp s5.heap) σ7 H7 s7 → N σ7 H7 → ∃ m, m < n ∧ ∃ i σ' H', Inv X pins σ' H' s7 ∧ tn i s7.heap ∧ (∀ b ∈ fp, H' b = none) ∧ W i m σ' H' := fun {σ7 H7} I7 n7 => by
      obtain ⟨m', hm, w7⟩ := hN σ7 H7 n7
      refine ⟨m', hm, i + 1, σ7, H7, I7.unpinned, T.keep _ _ _ st5 fun b hb o e => (I7.pin (b, o) (List.mem_append_right _ (List.mem_append_right _ (mem_pinsAt hb e)))).1, fun b hb => ?_, w7⟩
      obtain ⟨o, e, d⟩ := T.obj _ _ st5 b hb
      exact (I7.pin (b, o) (List.mem_append_right _ (List.mem_append_right _ (mem_pinsAt hb e)))).2.1
    cases f with
    | next => obtain ⟨σ7, H7, I7, n7⟩ := q7; exact again I7 n7
    | cont => obtain ⟨σ7, H7, I7, n7⟩ := q7; exact again I7 n7
    | brk => obtain ⟨σ7, H7, I7, q7⟩ := q7; exact ⟨σ7, H7, I7.unpinned, q7⟩
    | ret v => obtain ⟨x7, σ7, H7, I7, r7, q7⟩ := q7; exact ⟨x7, σ7, H7, I7.unpinned, r7, q7⟩
end
end L2
namespace L2
open PySem PySem.Spec PyProof.Rows
noncomputable abbrev R2 := V → V → Hp → VK → Prop
noncomputable def OpR (X : Cx) (f : Value → Value → Sem Value) (r : R2) : Prop :=
  ∀ (pins : List (Addr × Obj)) (s : Shared) (σ : St) (H : Hp) (x y : V) (v u : Value) (Q : VK), Inv X pins σ H s → RelV x v → RelV y u → r x y H Q →
    wpAny (model X.prog X.w) X.A (f v u) (EP X pins σ Q) X.xe s
noncomputable def UnR (X : Cx) (f : Value → Sem Value) (r : V → Hp → VK → Prop) : Prop :=
  ∀ (pins : List (Addr × Obj)) (s : Shared) (σ : St) (H : Hp) (x : V) (v : Value) (Q : VK), Inv X pins σ H s → RelV x v → r x H Q →
    wpAny (model X.prog X.w) X.A (f v) (EP X pins σ Q) X.xe s
noncomputable def CallR (X : Cx) (f : Value) (r : List V → Hp → VK → Prop) : Prop :=
  ∀ (pins : List (Addr × Obj)) (s : Shared) (σ : St) (H : Hp) (xs : List V) (us : List Value) (Q : VK), Inv X pins σ H s → Vals xs us → r xs H Q →
    wpAny (model X.prog X.w) X.A (call f us) (EP X pins σ Q) X.xe s
noncomputable def tOp (r : R2) (ta tb : TE) : TE := fun σ H Q => ta σ H fun x H1 => tb σ H1 fun y H2 => r x y H2 Q
noncomputable def tUn (r : V → Hp → VK → Prop) (ta : TE) : TE := fun σ H Q => ta σ H fun x H1 => r x H1 Q
noncomputable def rI (C : Int → Int → Prop) (g : Int → Int → V) : R2 := fun x y H Q => ∃ i j, x = .int i ∧ y = .int j ∧ C i j ∧ Q (g i j) H
noncomputable def rI0 (g : Int → Int → V) : R2 := fun x y H Q => ∃ i j, x = .int i ∧ y = .int j ∧ Q (g i j) H
noncomputable def rU (g : Int → V) : V → Hp → VK → Prop := fun x H Q => ∃ i, x = .int i ∧ Q (g i) H

section
variable {X : Cx} {a b c : Expr} {ta tb tc : TE} {pos : Pos}
theorem binT (ha : PE X a ta) (hb : PE X b tb) {pins : List (Addr × Obj)} {s : Shared} {σ : St} {H : Hp} {R : V → V → Hp → Prop} (I : Inv X pins σ H s)
    (h : ta σ H fun x H1 => tb σ H1 fun y H2 => R x y H2) {Q : Value → Shared → Prop} {f : Value → Value → Sem Value}
    (hf : ∀ v u s2 x y H2, Inv X pins σ H2 s2 → RelV x v → RelV y u → R x y H2 → wpAny (model X.prog X.w) X.A (f v u) Q X.xe s2) :
    wpAny (model X.prog X.w) X.A (eval a X.env) (fun v s₁ => wpAny (model X.prog X.w) X.A (eval b X.env) (fun u s₂ => wpAny (model X.prog X.w) X.A (f v u) Q X.xe s₂) X.xe s₁) X.xe s := by
  refine thn (ha pins s σ H _ I h) fun v s1 ⟨x, H1, I1, r1, q1⟩ => ?_
  refine thn (hb pins s1 σ H1 _ I1 q1) fun u s2 ⟨y, H2, I2, r2, q2⟩ => ?_
  exact hf v u s2 x y H2 I2 r1 r2 q2

theorem pe_op {op : Operator} {r : R2} (ho : OpR X (binaryOp op) r) (ha : PE X a ta) (hb : PE X b tb) : PE X (.BinOp a op b pos) (tOp r ta tb) := by
  intro pins s σ H Q I h
  exact wpAny_BinOp (binT ha hb I h fun v u s2 x y H2 I2 rx ry q => ho pins s2 σ H2 x y v u Q I2 rx ry q)
theorem pe_un {op : UnaryOp} {r : V → Hp → VK → Prop} (ho : UnR X (unaryOp op) r) (ha : PE X a ta) : PE X (.UnaryOp op a pos) (tUn r ta) := by
  intro pins s σ H Q I h
  exact UnaryOp_ (thn (ha pins s σ H _ I h) fun v s1 ⟨x, H1, I1, r1, q1⟩ => ho pins s1 σ H1 x v Q I1 r1 q1)
theorem opI {f : Value → Value → Sem Value} {C : Int → Int → Prop} {g : Int → Int → Int}
    (rule : ∀ (i j : Int) (t u : Tok) (s : Shared) (Q : Value → Shared → Prop) (E : Value → Shared → Prop), C i j → Q (.int (g i j) s.toks) { s with toks := s.toks + 1 } → wpAny (model X.prog X.w) X.A (f (.int i t) (.int j u)) Q E s) :
    OpR X f (rI C fun i j => .int (g i j)) := by
  intro pins s σ H x y v u Q I rx ry h
  obtain ⟨i, j, rfl, rfl, hc, q⟩ := h
  obtain ⟨t, rfl⟩ := rx
  obtain ⟨t', rfl⟩ := ry
  exact rule i j t t' s _ _ hc ⟨.int (g i j), H, I.tok _, ⟨_, rfl⟩, q⟩
theorem opI0 {f : Value → Value → Sem Value} {g : Int → Int → Int}
    (rule : ∀ (i j : Int) (t u : Tok) (s : Shared) (Q : Value → Shared → Prop) (E : Value → Shared → Prop), Q (.int (g i j) s.toks) { s with toks := s.toks + 1 } → wpAny (model X.prog X.w) X.A (f (.int i t) (.int j u)) Q E s) :
    OpR X f (rI0 fun i j => .int (g i j)) := by
  intro pins s σ H x y v u Q I rx ry h
  obtain ⟨i, j, rfl, rfl, q⟩ := h
  obtain ⟨t, rfl⟩ := rx
  obtain ⟨t', rfl⟩ := ry
  exact rule i j t t' s _ _ ⟨.int (g i j), H, I.tok _, ⟨_, rfl⟩, q⟩
theorem opB0 {f : Value → Value → Sem Value} {g : Int → Int → Bool}
    (rule : ∀ (i j : Int) (t u : Tok) (s : Shared) (Q : Value → Shared → Prop) (E : Value → Shared → Prop), Q (.bool (g i j)) s → wpAny (model X.prog X.w) X.A (f (.int i t) (.int j u)) Q E s) :
    OpR X f (rI0 fun i j => .bl (g i j)) := by
  intro pins s σ H x y v u Q I rx ry h
  obtain ⟨i, j, rfl, rfl, q⟩ := h
  obtain ⟨t, rfl⟩ := rx
  obtain ⟨t', rfl⟩ := ry
  exact rule i j t t' s _ _ ⟨.bl (g i j), H, I, rfl, q⟩

noncomputable def CPow (i j : Int) : Prop := 0 ≤ j ∧ j ≤ 1000000 ∧ i.natAbs < 2 ^ 64
noncomputable def CMul (i j : Int) : Prop := (-(2 ^ 64) < i ∧ i < 2 ^ 64) ∨ (-(2 ^ 64) < j ∧ j < 2 ^ 64)
theorem CMul.ok {i j : Int} (h : CMul i j) : IntMulOk i j := by
  rcases h with ⟨h1, h2⟩ | ⟨h1, h2⟩
  · exact .of_left (intBits_le_64 h1 h2)
  · exact .of_right (intBits_le_64 h1 h2)
theorem op_add : OpR X (binaryOp .Add) (rI0 fun i j => .int (i + j)) := opI0 fun _ _ _ _ _ _ _ q => add_int q
theorem op_sub : OpR X (binaryOp .Sub) (rI0 fun i j => .int (i - j)) := opI0 fun _ _ _ _ _ _ _ q => sub_int q
theorem op_mul : OpR X (binaryOp .Mult) (rI CMul fun i j => .int (i * j)) := opI fun _ _ _ _ _ _ _ hc q => mul_int q hc.ok
theorem op_mod : OpR X (binaryOp .Mod) (rI (fun _ j => 0 < j) fun i j => .int (i % j)) := opI fun i j _ _ _ _ _ hc q => by
  have h1 : (0 : Int) < j := hc
  exact mod_int' (by omega) (by rw [Int.fmod_eq_emod_of_nonneg i (by omega)]; exact q)
theorem op_pow : OpR X (binaryOp .Pow) (rI CPow fun i j => .int (i ^ j.toNat)) := opI fun _ _ _ _ _ _ _ hc q => pow_int_small hc.1 hc.2.1 hc.2.2 q
theorem unI {f : Value → Sem Value} {g : Int → Int}
    (rule : ∀ (i : Int) (t : Tok) (s : Shared) (Q : Value → Shared → Prop) (E : Value → Shared → Prop), Q (.int (g i) s.toks) { s with toks := s.toks + 1 } → wpAny (model X.prog X.w) X.A (f (.int i t)) Q E s) :
    UnR X f (rU fun i => .int (g i)) := by
  intro pins s σ H x v Q I rx h
  obtain ⟨i, rfl, q⟩ := h
  obtain ⟨t, rfl⟩ := rx
  exact rule i t s _ _ ⟨.int (g i), H, I.tok _, ⟨_, rfl⟩, q⟩
theorem un_neg : UnR X (unaryOp .USub) (rU fun i => .int (-i)) := unI fun _ _ _ _ _ q => neg_int q
end
section
variable {X : Cx} {a b c : Expr} {ta tb tc : TE} {pos : Pos}
theorem fin_bl {pins : List (Addr × Obj)} {σ : St} {H : Hp} {s : Shared} {Q : VK} {k k' : Bool} (I : Inv X pins σ H s) (q : Q (.bl k) H) (e : k = k') : EP X pins σ Q (.bool k') s := by
  subst e
  exact ⟨.bl k, H, I, rfl, q⟩
theorem op_lt : OpR X (compareOp .Lt) (rI0 fun i j => .bl (decide (i < j))) := opB0 fun _ _ _ _ _ _ _ q => lt_int q
theorem op_le : OpR X (compareOp .LtE) (rI0 fun i j => .bl (decide (i ≤ j))) := opB0 fun _ _ _ _ _ _ _ q => le_int q
theorem op_gt : OpR X (compareOp .Gt) (rI0 fun i j => .bl (decide (j < i))) := opB0 fun _ _ _ _ _ _ _ q => gt_int q
theorem op_isN : OpR X (compareOp .Is) (fun x y H Q => y = .non ∧ Q (.bl (decide (x = .non))) H) := by
  intro pins s σ H x y v u Q I rx ry h
  obtain ⟨rfl, q⟩ := h
  cases ry
  refine is_none_gen (fin_bl I q ?_)
  cases x <;> first
    | (cases rx; rfl)
    | (obtain ⟨t, rfl⟩ := rx; rfl)
theorem op_notN : OpR X (compareOp .IsNot) (fun x y H Q => y = .non ∧ Q (.bl (!decide (x = .non))) H) := by
  intro pins s σ H x y v u Q I rx ry h
  obtain ⟨rfl, q⟩ := h
  cases ry
  refine isnot_none_gen (fin_bl I q ?_)
  cases x <;> first
    | (cases rx; rfl)
    | (obtain ⟨t, rfl⟩ := rx; rfl)

theorem OpR.or {f : Value → Value → Sem Value} {r r' : R2} (h : OpR X f r) (h' : OpR X f r') : OpR X f (fun x y H Q => r x y H Q ∨ r' x y H Q) := by
  intro pins s σ H x y v u Q I rx ry q
  rcases q with q | q
  · exact h pins s σ H x y v u Q I rx ry q
  · exact h' pins s σ H x y v u Q I rx ry q

theorem nomark (b : Expr) {op : CmpOp} (h : op ≠ .In := by decide) (h2 : op ≠ .NotIn := by decide) : behindInMarks op b = false := by
  have e1 : (op == CmpOp.In) = false := by cases op <;> first | rfl | exact absurd rfl h
  have e2 : (op == CmpOp.NotIn) = false := by cases op <;> first | rfl | exact absurd rfl h2
  cases b <;> simp [behindInMarks, e1, e2]
theorem pe_cmpR {op : CmpOp} {r : R2} (ho : OpR X (compareOp op) r) (ha : PE X a ta) (hb : PE X b tb) (hm : behindInMarks op b = false) : PE X (.Compare a [op] [b] pos) (tOp r ta tb) := by
  intro pins s σ H Q I h
  exact wpAny_Compare1 (binT ha hb I h fun v u s2 x y H2 I2 rx ry q => ho pins s2 σ H2 x y v u Q I2 rx ry q) hm
noncomputable def tTest (t : TE) : TT := fun σ H Q => t σ H fun x H' => ∃ k, x = .bl k ∧ Q k H'
theorem pt_cmpR {op : CmpOp} {r : R2} (ho : OpR X (compareOp op) r) (ha : PE X a ta) (hb : PE X b tb) (hm : behindInMarks op b = false) : PT X (.Compare a [op] [b] pos) (tTest (tOp r ta tb)) := by
  intro pins s σ H Q I h
  refine wpAny_isTrue_Compare1 (thn (ha pins s σ H _ I h) fun v s1 ⟨x, H1, I1, r1, q1⟩ => thn (hb pins s1 σ H1 _ I1 q1) fun u s2 ⟨y, H2, I2, r2, q2⟩ =>
    thn (ho pins s2 σ H2 x y v u _ I2 r1 r2 q2) fun c s3 ⟨z, H3, I3, r3, k, e, q3⟩ => ?_) hm
  subst e
  cases r3
  exact wpAny_truthy_bool ⟨H3, I3, q3⟩
theorem line63 : (sizeLine : Nat) < 2 ^ 63 := by rw [sizeLine_eq]; decide
theorem op_add_str : OpR X (binaryOp .Add) (fun x y H Q => ∃ i j, x = .str i ∧ y = .str j ∧ i.length + j.length ≤ sizeLine ∧ Q (.str (i ++ j)) H) := by
  intro pins s σ H x y v u Q I rx ry h
  obtain ⟨i, j, rfl, rfl, hz, q⟩ := h
  obtain ⟨t, rfl⟩ := rx
  obtain ⟨t', rfl⟩ := ry
  exact add_str (fun t' tk => ⟨.str (i ++ j), H, I.tok _, ⟨_, rfl⟩, q⟩) hz
theorem vals1 {x : V} {us : List Value} (r : Vals [x] us) : ∃ u, us = [u] ∧ RelV x u := by
  cases r with
  | cons r1 r2 => cases r2; exact ⟨_, rfl, r1⟩
theorem vals2 {x y : V} {us : List Value} (r : Vals [x, y] us) : ∃ u w', us = [u, w'] ∧ RelV x u ∧ RelV y w' := by
  cases r with
  | cons r1 r2 =>
    cases r2 with
    | cons r3 r4 => cases r4; exact ⟨_, _, rfl, r1, r3⟩
theorem call_abs : CallR X (.builtin "abs") (fun xs H Q => ∃ i, xs = [.int i] ∧ Q (.int (if i < 0 then -i else i)) H) := by
  intro pins s σ H xs us Q I r h
  obtain ⟨i, rfl, q⟩ := h
  obtain ⟨u, rfl, t, rfl⟩ := vals1 r
  exact call_abs_int fun u tk => ⟨.int (if i < 0 then -i else i), H, I.tok _, ⟨_, rfl⟩, q⟩
theorem call_min2 (hc : X.calm = true) : CallR X (.builtin "min") (fun xs H Q => ∃ i j, xs = [.int i, .int j] ∧ Q (.int (if j < i then j else i)) H) := by
  intro pins s σ H xs us Q I r h
  obtain ⟨i, j, rfl, q⟩ := h
  obtain ⟨u, w', rfl, ⟨t, rfl⟩, ⟨t', rfl⟩⟩ := vals2 r
  refine min_two_ints (I.ok.hd hc) fun h' tk k => ⟨_, H, I.kept k, ?_, q⟩
  by_cases hj : j < i
  · rw [if_pos hj, if_pos hj]; exact ⟨_, rfl⟩
  · rw [if_neg hj, if_neg hj]; exact ⟨_, rfl⟩
end
end L2
namespace L2
open PySem PySem.Spec PyProof.Rows
structure ObjM (h : Heap) (x dx C : Addr) (mA : Str → Option Value) : Prop where
  obj : h.get? x = some (PySem.W.instObj C dx)
  ns : h.Ns1 dx mA
  ne : dx ≠ x

theorem lookIn_ns {h : Heap} {dx : Addr} {mA : Str → Option Value} (n : h.Ns1 dx mA) : ∃ od, h.get? dx = some od ∧ ∀ name, PySem.W.lookIn name od = some (mA name) := by
  obtain ⟨o, es, ep, ho, hd, hk, _, hm⟩ := n
  refine ⟨o, ho, fun name => ?_⟩
  have e := hm name
  unfold nsFind findBy at e
  rw [← Array.find?_toList] at e
  unfold PySem.W.lookIn
  rw [hd]
  dsimp only
  split
  · rename_i y q
    rw [q] at e
    exact congrArg some e
  · rename_i q
    rw [q] at e
    have a : es.toList.any (·.refKey) = false := by
      rw [List.any_eq_false]
      intro y hy
      obtain ⟨z, t, hkey⟩ := hk y (Array.mem_toList_iff.mp hy)
      simp [DictEntry.refKey, hkey]
    have a' : ¬ es.toList.any (·.refKey) = true := by rw [a]; exact Bool.false_ne_true
    rw [if_neg a']
    exact congrArg some e

theorem ObjM.look {h : Heap} {x dx C : Addr} {mA : Str → Option Value} (I : ObjM h x dx C mA) : ∃ od, PySem.W.InstAt h x (PySem.W.instObj C dx) C (some od) ∧ ∀ name, PySem.W.lookIn name od = some (mA name) :=
  let ⟨od, ho, hl⟩ := lookIn_ns I.ns
  ⟨od, ⟨I.obj, rfl, rfl, ho⟩, hl⟩

section
variable {prog : Program} {w : World} {A : Around} {E : Value → Shared → Prop} {s : Shared} {K : PySem.W.Frag} {x dx C f : Addr} {mA : Str → Option Value} {name : Str} {v : Value}
theorem get_map {expr : Bool} {Q : Value → Shared → Prop} (X : K.In s.heap) (I : ObjM s.heap x dx C mA) (hg : PySem.W.plainGet K C name = true) (hh : PySem.W.hasDictIn K C = true)
    (ha : PySem.W.findIn K (.ref C) name = some none) (hv : mA name = some v) (hv' : PySem.W.handedIn v = true) (h : Q v { s with toks := s.toks + 1 }) :
    wpAny (model prog w) A (getAttr (.ref x) name expr) Q E s := by
  obtain ⟨od, J, hl⟩ := I.look
  exact PySem.W.get_value X J (PySem.W.plainGet_of hg).1 (PySem.W.findObj_own hh ha rfl (by rw [hl, hv])) hv' h

theorem get_meth {pl : Sem Bool} {Q : Value × List Value → Shared → Prop} (X : K.In s.heap) (I : ObjM s.heap x dx C mA) (hg : PySem.W.plainGet K C name = true)
    (hf : PySem.W.findIn K (.ref C) name = some (some (.ref f))) (ht : PySem.W.isFn K (.ref f) = true) (hv : mA name = none) (h : Q (.ref f, [.ref x]) s) :
    wpAny (model prog w) A (getMethod (.ref x) name pl) Q E s := by
  obtain ⟨od, J, hl⟩ := I.look
  exact PySem.W.method_fn X J (PySem.W.plainGet_of hg).1 (PySem.W.plainGet_of hg).2 hf (beq_iff_eq.mp ht) (by show (PySem.W.lookIn name od).map (·.isSome) = some false; rw [hl, hv]; rfl) h

theorem set_map {ns : List Str} {Q : Unit → Shared → Prop} (X : K.In s.heap) (I : ObjM s.heap x dx C mA)
    (hs : PySem.W.findIn K (.ref C) "__setattr__" = some (some (.builtin "object.__setattr__"))) (hp : PySem.W.plainOver K C = true) (ht : PySem.W.takerIn K C name = some none) (hh : PySem.W.hasDictIn K C = true)
    (hw : PySem.Within mA ns) (hsz : ns.length ≤ sizeLine)
    (h : ∀ h', ObjM h' x dx C (fun y => if y = name then some v else mA y) → Heap.SameBut dx s.heap h' → Q () { s with heap := h', toks := s.toks + 2 }) :
    wpAny (model prog w) A (setAttr (.ref x) name v) Q E s := by
  obtain ⟨od, J, hl⟩ := I.look
  refine PySem.W.set_plain X J hs (PySem.W.osa_open (s := { s with toks := s.toks + 1 }) (r := none) X J hp ht fun b => ?_)
  obtain ⟨cd, hc, hd'⟩ := PySem.W.any_some hh
  have hx : s.heap.get? x = some ⟨.ref C, some dx, .plain, #[]⟩ := I.obj
  refine wpAny_bind (wpAny_pure (wpAny_bind (wpAny_bind (wpAny_loadPart hx (wpAny_bind (PySem.W.Looks.here (s := { s with toks := s.toks + 1 }) (PySem.W.looks_clsIn X hc) ?_))))))
  rw [hd']
  refine wpAny_pure (a := some dx) (wpAny_bind (wpAny_pure (wpAny_bind ?_)))
  refine wpAny_nsSet1 (s := { s with toks := s.toks + 1 }) I.ns fun h' hn2 hs2 => ?_
  obtain ⟨oD, esD, epD, hoD, hdD, hcD⟩ := hn2.count (PySem.Within.cons name v hw)
  refine wpAny_bind (wpAny_lookBehind hoD (by rw [hdD]; exact pastItsLine_dict (Nat.le_trans hcD (by rw [List.length_cons]; omega))) ?_)
  exact wpAny_pure (h _ ⟨(hs2.2 _ (Ne.symm I.ne)).trans I.obj, hn2, I.ne⟩ hs2)

theorem make_map {R : Result → Shared → Prop} {vs : List Value} {kw : List (Str × Value)} (X : K.In s.heap) (hm : PySem.W.makesIn K C = true)
    (hi : PySem.W.findIn K (.ref C) "__init__" = some (some (.ref f))) (hf : PySem.W.typeIn K (.ref f) = some (.type "function"))
    (h : codeAny (model prog w) (A.under (.builtin "type.__call__" ⟨.ref C :: vs, kw⟩)) (.call (.ref f) ⟨.ref (s.heap.objs.size + 1) :: vs, kw⟩) (PySem.W.InitBack (s.heap.objs.size + 1) R)
      { s with heap := (s.heap.push PySem.W.emptyDict).push (PySem.W.instObj C s.heap.objs.size) }) :
    codeAny (model prog w) A (.call (.ref C) ⟨vs, kw⟩) R s := by
  obtain ⟨hh, g, d, t, os⟩ := s
  exact PySem.W.make_core (PySem.W.makes_of X hm) (PySem.W.looks_findIn X hi) (fun self => PySem.W.bind_fn X self hf) (.inl rfl) h
theorem make_map0 {R : Result → Shared → Prop} (X : K.In s.heap) (hm : PySem.W.makesIn K C = true)
    (hi : PySem.W.findIn K (.ref C) "__init__" = some (some (.builtin "object.__init__")))
    (hb : ∀ self, PySem.W.Looks (model prog w) s.heap (bindSpecial (.builtin "object.__init__") self) (.builtin "object.__init__", [self]))
    (h : codeAny (model prog w) (A.under (.builtin "type.__call__" ⟨[.ref C], []⟩)) (.call (.builtin "object.__init__") ⟨[.ref (s.heap.objs.size + 1)], []⟩) (PySem.W.InitBack (s.heap.objs.size + 1) R)
      { s with heap := (s.heap.push PySem.W.emptyDict).push (PySem.W.instObj C s.heap.objs.size) }) :
    codeAny (model prog w) A (.call (.ref C) ⟨[], []⟩) R s := by
  obtain ⟨hh, g, d, t, os⟩ := s
  exact PySem.W.make_core (PySem.W.makes_of X hm) (PySem.W.looks_findIn X hi) hb (.inr ⟨rfl, rfl⟩) h
end
noncomputable def putF (f : Str) (v : V) : List (Str × V) → List (Str × V)
  | [] => [(f, v)]
  | (g, x) :: r => if g = f then (g, v) :: r else (g, x) :: putF f v r
theorem lookup_putF (f g : Str) (v : V) : ∀ fs : List (Str × V), (putF f v fs).lookup g = if g = f then some v else fs.lookup g
  | [] => by
    show List.lookup g [(f, v)] = _
    by_cases h : g = f
    · have hb : (g == f) = true := beq_iff_eq.mpr h
      simp only [List.lookup, hb, if_pos h]
    · have hb : (g == f) = false := beq_eq_false_iff_ne.mpr h
      simp only [List.lookup, hb, if_neg h]
  | (k, x) :: r => by
    have ih := lookup_putF f g v r
    rw [show putF f v ((k, x) :: r) = (if k = f then (k, v) :: r else (k, x) :: putF f v r) from rfl]
    by_cases hk : k = f
    · rw [if_pos hk]
      by_cases h : g = k
      · have hb : (g == k) = true := beq_iff_eq.mpr h
        simp only [List.lookup, hb, if_pos (h.trans hk)]
      · have hb : (g == k) = false := beq_eq_false_iff_ne.mpr h
        simp only [List.lookup, hb, if_neg (fun e : g = f => h (e.trans hk.symm))]
    · rw [if_neg hk]
      by_cases h : g = k
      · have hb : (g == k) = true := beq_iff_eq.mpr h
        simp only [List.lookup, hb, if_neg (fun e : g = f => hk (h.symm.trans e))]
      · have hb : (g == k) = false := beq_eq_false_iff_ne.mpr h
        simp only [List.lookup, hb]
        exact ih
theorem keys_putF (f : Str) (v : V) : ∀ fs : List (Str × V), f ∈ (putF f v fs).map (·.1) ∧ ∀ g, g ∈ fs.map (·.1) → g ∈ (putF f v fs).map (·.1)
  | [] => ⟨by simp [putF], fun g h => by simp at h⟩
  | (k, x) :: r => by
    obtain ⟨i1, i2⟩ := keys_putF f v r
    rw [show putF f v ((k, x) :: r) = (if k = f then (k, v) :: r else (k, x) :: putF f v r) from rfl]
    by_cases hk : k = f
    · rw [if_pos hk]
      subst hk
      exact ⟨by simp, fun g h => by simpa using h⟩
    · rw [if_neg hk]
      refine ⟨?_, fun g h => ?_⟩
      · rw [List.map_cons]
        exact List.mem_cons_of_mem _ i1
      · rw [List.map_cons] at h ⊢
        rcases List.mem_cons.mp h with e | e
        · exact List.mem_cons.mpr (.inl e)
        · exact List.mem_cons_of_mem _ (i2 g e)
theorem length_putF (f : Str) (v : V) : ∀ fs : List (Str × V), (putF f v fs).length ≤ fs.length + 1
  | [] => by simp [putF]
  | (k, x) :: r => by
    have ih := length_putF f v r
    rw [show putF f v ((k, x) :: r) = (if k = f then (k, v) :: r else (k, x) :: putF f v r) from rfl]
    by_cases hk : k = f
    · rw [if_pos hk, List.length_cons, List.length_cons]; omega
    · rw [if_neg hk, List.length_cons, List.length_cons]; omega

theorem RelO.some_of {v : V} {o : Option Value} (r : RelO (some v) o) : ∃ u, o = some u ∧ RelV v u := by
  cases o with
  | none => exact (show False from r).elim
  | some u => exact ⟨u, rfl, r⟩
theorem RelO.none_of {o : Option Value} (r : RelO none o) : o = none := by
  cases o with
  | none => rfl
  | some u => exact (show False from r).elim
theorem handed_of {v : V} {u : Value} (r : RelV v u) : PySem.W.handedIn u = true := by
  cases v with
  | non => cases (show u = Value.none from r); rfl
  | bl b => cases (show u = Value.bool b from r); rfl
  | int i => obtain ⟨t, e⟩ := (show ∃ t, u = Value.int i t from r); cases e; rfl
  | str x => obtain ⟨t, e⟩ := (show ∃ t, u = Value.str x t from r); cases e; rfl
  | byt b => obtain ⟨t, e⟩ := (show ∃ t, u = Value.bytes b t from r); cases e; rfl
  | flt b => obtain ⟨t, e⟩ := (show ∃ t, u = Value.float b t from r); cases e; rfl
  | ref a => cases (show u = Value.ref a from r); rfl
  | ty n => cases (show u = Value.type n from r); rfl

section
variable {P : Program} {w : World} {H H' : Hp} {h h' : Heap} {a C dx : Addr} {fs fs' : List (Str × V)}
theorem ins_get (hok : HOk P w H h) (e : H a = some (.ins C dx fs)) : ∃ mA, ObjM h a dx C mA ∧ (∀ f, RelO (fs.lookup f) (mA f)) ∧ PySem.Within mA (fs.map (·.1)) ∧ fs.length ≤ 1000 ∧ H dx = some (.own a) := by
  obtain ⟨d, z, ne, ob, mA, n, r, q⟩ := (show ObjOk P w H h a (.ins C dx fs) from hok a _ e)
  exact ⟨mA, ⟨ob, n, ne⟩, r, q, z, d⟩
end
structure Cls (K : PySem.W.Frag) (C : Addr) : Prop where
  pg : PySem.W.plainGet K C Str.empty = true
  hd : PySem.W.hasDictIn K C = true
  po : PySem.W.plainOver K C = true
  sa : PySem.W.findIn K (.ref C) "__setattr__" = some (some (.builtin "object.__setattr__"))
theorem Cls.get {K : PySem.W.Frag} {C : Addr} (c : Cls K C) (f : Str) : PySem.W.plainGet K C f = true := c.pg
noncomputable def NoAttr (K : PySem.W.Frag) (C : Addr) (f : Str) : Prop := PySem.W.findIn K (.ref C) f = some none
theorem NoAttr.taker {K : PySem.W.Frag} {C : Addr} {f : Str} (n : NoAttr K C f) : PySem.W.takerIn K C f = some none := by
  unfold PySem.W.takerIn
  rw [show PySem.W.findIn K (.ref C) f = some none from n]
  rfl
structure Meth (K : PySem.W.Frag) (C : Addr) (m : Str) (f : Addr) : Prop where
  at_ : PySem.W.findIn K (.ref C) m = some (some (.ref f))
  fn : PySem.W.isFn K (.ref f) = true
  kp : PySem.W.keepIn K (.ref f) = true

section
variable {X : Cx} {pins : List (Addr × Obj)} {σ : St} {H : Hp} {s : Shared} {a C dx : Addr} {fs : List (Str × V)} {f : Str} {v : V} {A : Around} {E : Value → Shared → Prop}
theorem getattr_ok {b : Bool} {Q : Value → Shared → Prop} (I : Inv X pins σ H s) (e : H a = some (.ins C dx fs)) (c : Cls X.K C) (n : NoAttr X.K C f) (l : fs.lookup f = some v)
    (h : ∀ u s', Inv X pins σ H s' → RelV v u → Q u s') : wpAny (model X.prog X.w) A (getAttr (.ref a) f b) Q E s := by
  obtain ⟨mA, O, r, _, _, _⟩ := ins_get I.hok e
  obtain ⟨u, hu, ru⟩ := RelO.some_of (v := v) (o := mA f) (by rw [← l]; exact r f)
  exact get_map I.kIn O (c.get f) c.hd n hu (handed_of ru) (h u _ (I.tok _) ru)

theorem getmeth_ok {m : Str} {g : Addr} {pl : Sem Bool} {Q : Value × List Value → Shared → Prop} (I : Inv X pins σ H s) (e : H a = some (.ins C dx fs)) (c : Cls X.K C) (k : Meth X.K C m g) (l : fs.lookup m = none)
    (h : Q (.ref g, [.ref a]) s) : wpAny (model X.prog X.w) A (getMethod (.ref a) m pl) Q E s := by
  obtain ⟨mA, O, r, _, _, _⟩ := ins_get I.hok e
  have hn : mA m = none := RelO.none_of (by rw [← l]; exact r m)
  exact get_meth I.kIn O (c.get m) k.at_ k.fn hn h

theorem setattr_ok {y : V} {u : Value} {Q : Unit → Shared → Prop} (I : Inv X pins σ H s) (e : H a = some (.ins C dx fs)) (c : Cls X.K C) (n : NoAttr X.K C f) (hl : fs.length < 1000) (ry : RelV y u)
    (h : ∀ s', Inv X pins σ (upd H a (.ins C dx (putF f y fs))) s' → Q () s') : wpAny (model X.prog X.w) A (setAttr (.ref a) f u) Q E s := by
  obtain ⟨mA, O, r, wi, _, ho⟩ := ins_get I.hok e
  have hz : (fs.map (·.1)).length ≤ sizeLine := by rw [List.length_map, sizeLine_eq]; omega
  refine set_map I.kIn O c.sa c.po n.taker c.hd wi hz fun h' O' sb => h _ ?_
  have hd : ∃ o, h'.get? dx = some o := let ⟨o, _, _, e', _⟩ := O'.ns; ⟨o, e'⟩
  refine I.write (x := a) (e := dx) (by rw [e]; exact True.intro) (.inr ho) (fun b q hb z => (sb.2 b hb).trans z) hd ?_
  refine ⟨by rw [upd_ne O.ne]; exact ho, ?_, O.ne, O'.obj, _, O'.ns, fun g => ?_, fun g hg => ?_⟩
  · have := length_putF f y fs; omega
  · show RelO ((putF f y fs).lookup g) (if g = f then some u else mA g)
    rw [lookup_putF]
    by_cases q : g = f
    · rw [if_pos q, if_pos q]; exact ry
    · rw [if_neg q, if_neg q]; exact r g
  · by_cases q : g = f
    · rw [q]; exact (keys_putF f y fs).1
    · refine (keys_putF f y fs).2 g (wi g fun z => hg ?_)
      show (if g = f then some u else mA g) = none
      rw [if_neg q]; exact z

theorem Inv.made (I : Inv X pins σ H s) : Inv X pins σ (upd (upd H s.heap.objs.size (.own (s.heap.objs.size + 1))) (s.heap.objs.size + 1) (.ins C s.heap.objs.size []))
    { s with heap := (s.heap.push PySem.W.emptyDict).push (PySem.W.instObj C s.heap.objs.size) } := by
  have e1 : (s.heap.push PySem.W.emptyDict).get? s.heap.objs.size = some PySem.W.emptyDict := Heap.get?_push_size s.heap rfl
  have e2 : ((s.heap.push PySem.W.emptyDict).push (PySem.W.instObj C s.heap.objs.size)).get? (s.heap.objs.size + 1) = some (PySem.W.instObj C s.heap.objs.size) := by
    have := Heap.get?_push_size (s.heap.push PySem.W.emptyDict) (o := PySem.W.instObj C s.heap.objs.size) rfl
    rwa [Heap.size_push] at this
  have e3 : (s.heap.push PySem.W.emptyDict).Ns s.heap.objs.size (fun _ => none) := ⟨PySem.W.emptyDict, #[], _, e1, rfl, (fun e he => absurd he (by simp)), fun _ => rfl⟩
  have I1 := I.laid (a := s.heap.objs.size) (o := .own (s.heap.objs.size + 1)) (h' := s.heap.push PySem.W.emptyDict) (t' := s.toks) (fun b u q => Heap.get?_push_of_some _ q) (Nat.le_refl _) ⟨_, e1⟩
  refine I1.laid (a := s.heap.objs.size + 1) (o := .ins C s.heap.objs.size []) (t' := s.toks) (fun b u q => Heap.get?_push_of_some _ q) (Nat.le_of_eq (Heap.size_push _ _)) ?_
  have ne : s.heap.objs.size ≠ s.heap.objs.size + 1 := Nat.ne_of_lt (Nat.lt_succ_self _)
  refine ⟨by rw [upd_ne ne, upd_same], Nat.zero_le _, ne, e2, fun _ => none, (Heap.Ns1.of_empty e3).at fun o q => Heap.get?_push_of_some _ q, fun _ => True.intro, fun y hy => absurd rfl hy⟩

theorem attr_of {prog : Program} {w : World} {env : Env} {e : Expr} {f : Str} {pos : Pos} {s : Shared} {Q : Value → Shared → Prop} (hb : attributeBase e f env (eval e env) = eval e env)
    (h : wpAny (model prog w) A (eval e env) (fun o s₁ => wpAny (model prog w) A (getAttr o f true) Q E s₁) E s) : wpAny (model prog w) A (eval (.Attribute e f pos) env) Q E s :=
  Attribute_any_ h (by rw [arm_eval_Attribute, hb])
end
noncomputable def tFld (K : PySem.W.Frag) (ta : TE) (f : Str) : TE := fun σ H Q => ta σ H fun x H1 => ∃ a C dx fs v, x = .ref a ∧ H1 a = some (.ins C dx fs) ∧ Cls K C ∧ NoAttr K C f ∧ fs.lookup f = some v ∧ Q v H1
noncomputable def sFld (K : PySem.W.Frag) (ta tv : TE) (f : Str) : TS := fun D σ H => tv σ H fun y H1 => ta σ H1 fun x H2 => ∃ a C dx fs, x = .ref a ∧ H2 a = some (.ins C dx fs) ∧ Cls K C ∧ NoAttr K C f ∧ fs.length < 1000 ∧
  D.nx σ (upd H2 a (.ins C dx (putF f y fs)))
section
variable {X : Cx} {o e value : Expr} {f : Str} {pos pos' tpos : Pos} {ta tv : TE}
theorem pe_fld (he : PE X e ta) (hb : attributeBase e f X.env (eval e X.env) = eval e X.env) : PE X (.Attribute e f pos) (tFld X.K ta f) := by
  intro pins s σ H Q I h
  refine attr_of hb (thn (he pins s σ H _ I h) fun u s1 ⟨x, H1, I1, rx, a, C, dx, fs, v, ex, ea, c, n, l, q⟩ => ?_)
  subst ex
  obtain rfl : u = Value.ref a := rx
  exact getattr_ok I1 ea c n l fun u' s2 I2 ru => ⟨v, H1, I2, ru, q⟩
theorem ps_fld (ha : PE X o ta) (hv : PE X value tv) (hs : swapsWith value (some (.Attribute o f pos')) pos.line X.env = pure false) : PS X (.Assign [.Attribute o f pos'] value pos) (sFld X.K ta tv f) := by
  intro pins s σ H D I h
  refine plainObj_wpAny_Assign_Attribute (thn (hv pins s σ H _ I h) fun u s1 ⟨y, H1, I1, ry, q⟩ => thn (ha pins s1 σ H1 _ I1 q) fun ov s2 ⟨x, H2, I2, rx, a, C, dx, fs, ex, ea, c, n, l, q2⟩ => ?_) hs
  subst ex
  obtain rfl : ov = Value.ref a := rx
  exact setattr_ok I2 ea c n l ry fun s3 I3 => ⟨σ, _, I3, q2⟩
end
section
variable {X : Cx} {pins : List (Addr × Obj)} {σ : St} {H : Hp} {s : Shared} {A : Around} {E : Value → Shared → Prop} {Q : Value → Shared → Prop} {c : Value} {b : Bool}
inductive TyOf (K : PySem.W.Frag) (H : Hp) : V → Value → Prop where
  | non : TyOf K H .non (.type "NoneType")
  | bl (x : Bool) : TyOf K H (.bl x) (.type "bool")
  | int (i : Int) : TyOf K H (.int i) (.type "int")
  | str (x : Str) : TyOf K H (.str x) (.type "str")
  | flt (x : UInt64) : TyOf K H (.flt x) (.type "float")
  | lst {a : Addr} {xs : List V} (e : H a = some (.lst xs)) : TyOf K H (.ref a) (.type "list")
  | frz {a : Addr} {o : Obj} {xs : List V} (e : H a = some (.frz o (.lst xs))) : TyOf K H (.ref a) (.type "list")
  | tup {a : Addr} {xs : List V} (e : H a = some (.tup xs)) : TyOf K H (.ref a) (.type "tuple")
  | dK {a : Addr} {kvs : List (Key × V)} (e : H a = some (.dK kvs)) : TyOf K H (.ref a) (.type "dict")
  | dT {a : Addr} {kvs : List (List Key × V)} (e : H a = some (.dT kvs)) : TyOf K H (.ref a) (.type "dict")
  | ins {a C dx : Addr} {fs : List (Str × V)} (e : H a = some (.ins C dx fs)) (cl : Cls K C) (ha : PySem.W.findIn K (.ref C) "__class__" = some (some (.builtin "object.__class__")))
      (hn : PySem.W.specialIn K (.builtin "object.__class__") "__get__" = some (some (.builtin "getset_descriptor.__get__"))) (htk : PySem.W.takesIn K (.builtin "object.__class__") = some true)
      (hm : PySem.W.mroIn K C (.type "object") = some true) : TyOf K H (.ref a) (.ref C)
theorem isinst_ok {x : V} {u t : Value} (I : Inv X pins σ H s) (rx : RelV x u) (ty : TyOf X.K H x t) (e : PySem.W.kitOne X.K t c = some b) (h : ∀ tk, Q (.bool b) { s with toks := tk }) :
    wpAny (model X.prog X.w) A (call (.builtin "isinstance") [u, c]) Q E s := by
  cases ty with
  | non => cases (show u = Value.none from rx); exact PySem.W.kia_one PySem.W.kitx_none I.kIn True.intro e (fun z => nomatch z) h
  | bl y => cases (show u = Value.bool y from rx); exact PySem.W.kia_one PySem.W.kitx_bool I.kIn True.intro e (fun z => nomatch z) h
  | int i => obtain ⟨t, q⟩ := (show ∃ t, u = Value.int i t from rx); cases q; exact PySem.W.kia_one PySem.W.kitx_int I.kIn True.intro e (fun z => nomatch z) h
  | str y => obtain ⟨t, q⟩ := (show ∃ t, u = Value.str y t from rx); cases q; exact PySem.W.kia_one PySem.W.kitx_str I.kIn True.intro e (fun z => nomatch z) h
  | flt y => obtain ⟨t, q⟩ := (show ∃ t, u = Value.float y t from rx); cases q; exact PySem.W.kia_one PySem.W.kitx_float I.kIn True.intro e (fun z => nomatch z) h
  | @lst a xs ea =>
    cases (show u = Value.ref a from rx)
    obtain ⟨_, _, n, _, h1⟩ := (show ObjOk X.prog X.w H s.heap a (.lst xs) from I.hok a _ ea)
    exact PySem.W.kia_one PySem.W.kitx_list I.kIn ⟨_, h1, rfl⟩ e (fun z => nomatch z) h
  | @frz a ob xs ea =>
    cases (show u = Value.ref a from rx)
    obtain ⟨_, _, _, n, _, h1⟩ := (show ObjOk X.prog X.w H s.heap a (.frz ob (.lst xs)) from I.hok a _ ea)
    exact PySem.W.kia_one PySem.W.kitx_list I.kIn ⟨_, h1, rfl⟩ e (fun z => nomatch z) h
  | @tup a xs ea =>
    cases (show u = Value.ref a from rx)
    obtain ⟨_, _, _, p⟩ := (show ObjOk X.prog X.w H s.heap a (.tup xs) from I.hok a _ ea)
    obtain ⟨o, h1, h2, _⟩ := p
    exact PySem.W.kia_one PySem.W.kitx_tuple I.kIn ⟨o, h1, h2⟩ e (fun z => nomatch z) h
  | @dK a kvs ea =>
    cases (show u = Value.ref a from rx)
    obtain ⟨_, _, vs, _, p⟩ := (show ObjOk X.prog X.w H s.heap a (.dK kvs) from I.hok a _ ea)
    obtain ⟨o, es, ep, h1, h2, _⟩ := p
    exact PySem.W.kia_one PySem.W.kitx_dict I.kIn ⟨o, h1, h2.1⟩ e (fun z => nomatch z) h
  | @dT a kvs ea =>
    cases (show u = Value.ref a from rx)
    obtain ⟨_, _, xs, _, o, es, ep, h1, h2, _⟩ := (show ObjOk X.prog X.w H s.heap a (.dT kvs) from I.hok a _ ea)
    exact PySem.W.kia_one PySem.W.kitx_dict I.kIn ⟨o, h1, h2.1⟩ e (fun z => nomatch z) h
  | @ins a C dx fs ea cl ha hn htk hm =>
    cases (show u = Value.ref a from rx)
    obtain ⟨mA, O, _⟩ := ins_get I.hok ea
    obtain ⟨od, J, _⟩ := O.look
    exact PySem.W.kia_one (PySem.W.kitx_own (cl.get _) cl.hd ha hn htk hm) I.kIn J e (fun z => nomatch z) h
end
end L2
namespace L2
open PySem PySem.Spec PyProof.Rows
structure Room (k : Nat) (A : Around) : Prop where
  hd : A.handled = none
  dp : A.depth + 3 * k + 5 < recursionLimit
  un : A.units + 16 * k + 200 < cLine
theorem Room.mono {j k : Nat} {A : Around} (r : Room k A) (h : j ≤ k) : Room j A := ⟨r.hd, by have := r.dp; omega, by have := r.un; omega⟩
theorem Room.deeper {k : Nat} {A : Around} (r : Room (k + 1) A) (env : Env) : Room k (A.deeper env) :=
  ⟨r.hd, by have := r.dp; show A.depth + 1 + 3 * k + 5 < _; omega, by have := r.un; show A.units + 3 + 16 * k + 200 < _; omega⟩
theorem make_depth {A : Around} {C : Addr} {us : List Value} {kw : List (Str × Value)} : (A.under (.builtin "type.__call__" ⟨.ref C :: us, kw⟩)).depth = A.depth + 1 := by
  first | rfl | simp [Around.under, Code.weight, Code.isCreation, Code.isGuard, Code.isCaller, Code.frames, Code.isFrame, guardIds]
theorem make_units {A : Around} {C : Addr} {us : List Value} {kw : List (Str × Value)} : (A.under (.builtin "type.__call__" ⟨.ref C :: us, kw⟩)).units = A.units + 1 := by
  first | rfl | simp [Around.under, Code.cUnits, Code.frames, Code.isFrame]
theorem Room.make {k : Nat} {A : Around} (r : Room (k + 1) A) (C : Addr) (us : List Value) (kw : List (Str × Value)) : Room k (A.under (.builtin "type.__call__" ⟨.ref C :: us, kw⟩)) :=
  ⟨r.hd, by have := r.dp; rw [make_depth]; omega, by have := r.un; rw [make_units]; omega⟩
theorem Room.depth {k : Nat} {A : Around} (r : Room k A) : A.depth < recursionLimit := by have := r.dp; omega
noncomputable def tNil : TA := fun _ H Q => Q [] H
noncomputable def tCons (ta : TE) (tr : TA) : TA := fun σ H Q => ta σ H fun x H1 => tr σ H1 fun xs H2 => Q (x :: xs) H2
section
variable {X : Cx} {e : Expr} {es : List Expr} {te : TE} {t : TA} {pos : Pos}
theorem pa_nil : PA X [] tNil := fun _ _ _ _ H Q I h => Calls.spliced_nil ⟨[], H, I, .nil, h⟩
theorem pa_cons (ha : PE X e te) (hr : PA X es t) (hs : starEach (e :: es) X.env = (false, eval e X.env) :: starEach es X.env := by rfl) : PA X (e :: es) (tCons te t) := by
  intro pos pins s σ H Q I h
  rw [hs]
  show wpAny _ _ (spliced ((false, eval e X.env) :: backTo pos (starEach es X.env))) _ _ s
  refine Calls.spliced_cons (thn (ha pins s σ H _ I h) fun u s1 ⟨x, H1, I1, r1, q1⟩ => ?_)
  exact thn (hr pos pins s1 σ H1 _ I1 q1) fun us s2 ⟨xs, H2, I2, r2, q2⟩ => ⟨x :: xs, H2, I2, .cons r1 r2, q2⟩

noncomputable def tTup (t : TA) : TE := fun σ H Q => t σ H fun xs H1 => xs.length ≤ sizeLine ∧ ∀ p, H1 p = none → Q (.ref p) (upd H1 p (.tup xs))
noncomputable def tLst (t : TA) : TE := fun σ H Q => t σ H fun xs H1 => xs.length ≤ sizeLine ∧ ∀ p, H1 p = none → Q (.ref p) (upd H1 p (.lst xs))
theorem pe_tup {x1} (h : PA X es t) : PE X (.Tuple es x1 pos) (tTup t) := by
  intro pins s σ H Q I hq
  refine wpAny_Tuple_spliced (thn (h pos pins s σ H _ I hq) fun us s1 ⟨xs, H1, I1, r, z, q⟩ => ⟨by rw [← r.length]; exact z, ?_⟩)
  have hf : H1 s1.heap.objs.size = none := I1.hok.fresh (Nat.le_refl _)
  refine ⟨.ref s1.heap.objs.size, upd H1 s1.heap.objs.size (.tup xs), I1.laid (t' := s1.toks) (fun b u e => Heap.get?_push_of_some _ e) (Nat.le_refl _) ?_, rfl, q _ hf⟩
  exact ⟨z, us, r, ⟨_, Heap.get?_push_size _ rfl, rfl, _, rfl⟩⟩
theorem pe_lst (h : PA X es t) : PE X (.List es pos) (tLst t) := by
  intro pins s σ H Q I hq
  refine wpAny_List_spliced (thn (h pos pins s σ H _ I hq) fun us s1 ⟨xs, H1, I1, r, z, q⟩ => ⟨by rw [← r.length]; exact z, ?_⟩)
  have hf : H1 s1.heap.objs.size = none := I1.hok.fresh (Nat.le_refl _)
  refine ⟨.ref s1.heap.objs.size, upd H1 s1.heap.objs.size (.lst xs), I1.laid (t' := s1.toks) (fun b u e => Heap.get?_push_of_some _ e) (Nat.le_refl _) ?_, rfl, q _ hf⟩
  exact ⟨z, us, 0, r, Heap.get?_push_size _ rfl⟩
end
noncomputable abbrev Sp := List V → Hp → VK → XK → Prop
noncomputable abbrev CXT := List Env → Hp → Shared → XK → Value → Shared → Prop

structure Env0 (P : Program) (w : World) (K : PySem.W.Frag) (mg : Str → Option Value) (base : Heap) (A : Around) (outer : List Env) (s : Shared) (H : Hp) : Prop where
  frames : A.frames = some outer
  mod : Mod K mg base
  bs : ∀ b o, base.get? b = some o → s.heap.get? b = some o ∧ H b = none
  bsz : base.objs.size ≤ s.heap.objs.size
  funs : s.heap.FunFrames base outer
  frf : ∀ b ∈ frs outer, H b = none
  hok : HOk P w H s.heap
  bare : AllBare s.gens
noncomputable def CE (outer : List Env) (P : Program) (w : World) (H : Hp) (s : Shared) (Q : VK) (u : Value) (s' : Shared) : Prop :=
  ∃ v H', s'.os = s.os ∧ AllBare s'.gens ∧ Un (frs outer) [] H H' s.heap s'.heap ∧ HOk P w H' s'.heap ∧ RelV v u ∧ Q v H'
noncomputable def CR (CX : CXT) (outer : List Env) (P : Program) (w : World) (H : Hp) (s : Shared) (Q : VK) (E : XK) (r : Result) (s' : Shared) : Prop :=
  match r with
  | .ok (.ret u) => CE outer P w H s Q u s'
  | .ok _ => False
  | .error e => CX outer H s E e s'
structure FnOk (P : Program) (w : World) (K : PySem.W.Frag) (mg : Str → Option Value) (base : Heap) (CX : CXT) (k : Nat) (f : Addr) (fd : FuncData) (ps : List Str) (sp : Sp) : Prop where
  len : ∀ vs H Q E, sp vs H Q E → vs.length = ps.length
  run : ∀ (A : Around) (outer : List Env) (s : Shared) (H : Hp) (args : Args) (us : List Value) (vs : List V) (Q : VK) (E : XK), Room k A → Env0 P w K mg base A outer s H → BindsTo s fd args (ps.zip us) → Vals vs us → sp vs H Q E →
    codeAny (model P w) A (.call (.ref f) args) (CR CX outer P w H s Q E) s
theorem FnOk.mono {P : Program} {w : World} {K : PySem.W.Frag} {mg : Str → Option Value} {base : Heap} {CX : CXT} {j k : Nat} {f : Addr} {fd : FuncData} {ps : List Str} {sp : Sp} (F : FnOk P w K mg base CX j f fd ps sp) (h : j ≤ k) :
    FnOk P w K mg base CX k f fd ps sp := ⟨F.len, fun A outer s H args us vs Q E hr => F.run A outer s H args us vs Q E (hr.mono h)⟩
theorem Env0.make {P : Program} {w : World} {K : PySem.W.Frag} {mg : Str → Option Value} {base : Heap} {A : Around} {outer : List Env} {s : Shared} {H : Hp} (e : Env0 P w K mg base A outer s H) (C : Addr) (us : List Value) (kw : List (Str × Value)) :
    Env0 P w K mg base (A.under (.builtin "type.__call__" ⟨.ref C :: us, kw⟩)) outer s H := ⟨by first | exact e.frames | (simpa [Around.under, Code.envs, Code.isFrame, pushEnvs] using e.frames), e.mod, e.bs, e.bsz, e.funs, e.frf, e.hok, e.bare⟩
section
variable {X : Cx} {pins : List (Addr × Obj)} {σ : St} {H : Hp} {s s' : Shared}
theorem Inv.env0 (I : Inv X pins σ H s) : Env0 X.prog X.w X.K X.mg X.base X.A X.stack s H :=
  ⟨I.ok.frames, I.ok.mod, I.bs, Nat.le_trans I.ok.bsz I.sz, I.stack, I.stkFree, I.hok, I.bare⟩
theorem Inv.after {Q : VK} {u : Value} (I : Inv X pins σ H s) (h : CE X.stack X.prog X.w H s Q u s') : EP X pins σ Q u s' := by
  obtain ⟨v, H', os, bare, un, hok, r, q⟩ := h
  obtain ⟨hh, g, d, t, os'⟩ := s'
  obtain rfl : os' = s.os := os
  exact ⟨v, H', I.call (h' := hh) (g' := g) (d' := d) (t' := t) (ch := []) un hok bare (fun b z => absurd z (by simp)), r, q⟩
end
noncomputable def tCall (sp : Sp) (dvs : List V) (E : XK) (t : TA) : TE := fun σ H Q => t σ H fun vs H1 => sp (vs ++ dvs) H1 Q E
noncomputable def tMake (C : Addr) (sp : Sp) (dvs : List V) (E : XK) (t : TA) : TE := fun σ H Q => t σ H fun vs H1 => ∀ x dx, H1 x = none → H1 dx = none → dx ≠ x →
  sp (.ref x :: (vs ++ dvs)) (upd (upd H1 dx (.own x)) x (.ins C dx [])) (fun v H2 => v = .non ∧ Q (.ref x) H2) E

noncomputable def Binds (K : PySem.W.Frag) (fd : FuncData) (ps : List Str) (ds : List Value) : Prop :=
  ∀ (s : Shared) (us : List Value), K.In s.heap → (us ++ ds).length = ps.length → BindsTo s fd ⟨us, []⟩ (ps.zip (us ++ ds))
theorem Binds.all {K : PySem.W.Frag} {fd : FuncData} {ps : List Str} (h : ∀ us : List Value, us.length = ps.length → bindArgs fd ⟨us, []⟩ = pure (ps.zip us)) : Binds K fd ps [] := fun s us _ hl => by
  rw [List.append_nil] at hl ⊢
  exact .of_eq (h us hl)

noncomputable def Passes (CX : CXT) (X : Cx) (E : XK) : Prop := ∀ (pins : List (Addr × Obj)) (σ : St) (H : Hp) (s : Shared) (e : Value) (s' : Shared), Inv X pins σ H s → CX X.stack H s E e s' → X.xe e s'

section
variable {X : Cx} {CX : CXT} {k : Nat} {f C : Addr} {fd : FuncData} {ps : List Str} {sp : Sp} {dvs : List V} {ds : List Value} {E : XK} {x m : Str} {p pos apos : Pos} {e o : Expr} {es : List Expr} {ta : TE} {t : TA}
theorem run_fn {pins : List (Addr × Obj)} {σ : St} {H : Hp} {s : Shared} {Q : VK} {us : List Value} {vs : List V} (F : FnOk X.prog X.w X.K X.mg X.base CX k f fd ps sp) (hr : Room k X.A) (hb : Binds X.K fd ps ds) (hd : Vals dvs ds) (hx : Passes CX X E)
    (I : Inv X pins σ H s) (r : Vals vs us) (h : sp (vs ++ dvs) H Q E) : wpAny (model X.prog X.w) X.A (call (.ref f) us) (EP X pins σ Q) X.xe s := by
  have r2 : Vals (vs ++ dvs) (us ++ ds) := r.append hd
  have hl : (us ++ ds).length = ps.length := by rw [← r2.length]; exact F.len _ _ _ _ h
  refine wpAny_call (codeAny_mono (F.run X.A X.stack s H ⟨us, []⟩ (us ++ ds) (vs ++ dvs) Q E hr I.env0 (hb s us I.kIn hl) r2 h) fun r s' hq => ?_)
  cases r with
  | error e => exact hx pins σ H s e s' I hq
  | ok fl =>
    cases fl with
    | ret u => exact I.after hq
    | next => exact False.elim hq
    | brk => exact False.elim hq
    | cont => exact False.elim hq

theorem pe_call (F : FnOk X.prog X.w X.K X.mg X.base CX k f fd ps sp) (hr : Room k X.A) (hg : Gl X x) (hm : X.mg x = some (.ref f)) (hk : PySem.W.keepIn X.K (.ref f) = true) (hb : Binds X.K fd ps ds) (hd : Vals dvs ds) (hx : Passes CX X E)
    (ha : PA X (e :: es) t) (hdb : (x == ("__debug__" : Str)) = false := by decide) (he : starEach (e :: es) X.env = (false, eval e X.env) :: starEach es X.env := by rfl) (hpl : (backTo pos (starEach es X.env)).any (·.1) = false := by rfl) :
    PE X (.Call (.Name x p) (e :: es) [] pos) (tCall sp dvs E t) := by
  intro pins s σ H Q I h
  refine wpAny_Call_Name_kw (ld_glob I hg hm ?_ hdb)
  refine PySem.W.callWith_K (h₀ := X.base) I.ok.mod.kin hk (thn (ha pos pins s σ H _ I h) fun us s1 ⟨vs, H1, I1, r, q⟩ => ⟨I1.kIn, ?_⟩) he hpl
  exact run_fn F hr hb hd hx I1 r q
structure Mk (K : PySem.W.Frag) (C f : Addr) : Prop where
  makes : PySem.W.makesIn K C = true
  init : PySem.W.findIn K (.ref C) "__init__" = some (some (.ref f))
  fn : PySem.W.isFn K (.ref f) = true
  kp : PySem.W.keepIn K (.ref C) = true

theorem run_make {pins : List (Addr × Obj)} {σ : St} {H : Hp} {s : Shared} {Q : VK} {us : List Value} {vs : List V} (M : Mk X.K C f) (F : FnOk X.prog X.w X.K X.mg X.base CX k f fd ps sp) (hr : Room (k + 1) X.A) (hb : Binds X.K fd ps ds) (hd : Vals dvs ds)
    (hx : Passes CX X E) (I : Inv X pins σ H s) (r : Vals vs us)
    (h : ∀ x dx, H x = none → H dx = none → dx ≠ x → sp (.ref x :: (vs ++ dvs)) (upd (upd H dx (.own x)) x (.ins C dx [])) (fun v H2 => v = .non ∧ Q (.ref x) H2) E) :
    wpAny (model X.prog X.w) X.A (call (.ref C) us) (EP X pins σ Q) X.xe s := by
  have hq := h (s.heap.objs.size + 1) s.heap.objs.size (I.hok.fresh (Nat.le_succ _)) (I.hok.fresh (Nat.le_refl _)) (Nat.ne_of_lt (Nat.lt_succ_self _))
  have I2 := Inv.made (C := C) I
  have r2 : Vals (V.ref (s.heap.objs.size + 1) :: (vs ++ dvs)) (Value.ref (s.heap.objs.size + 1) :: (us ++ ds)) := .cons rfl (r.append hd)
  have hl : (Value.ref (s.heap.objs.size + 1) :: us ++ ds).length = ps.length := by
    have e := r2.length
    rw [F.len _ _ _ _ hq] at e
    exact e.symm
  refine wpAny_call (make_map (f := f) I.kIn M.makes M.init (beq_iff_eq.mp M.fn) (codeAny_mono (F.run _ X.stack _ _ ⟨Value.ref (s.heap.objs.size + 1) :: us, []⟩ (Value.ref (s.heap.objs.size + 1) :: (us ++ ds)) _ _ E (hr.make C us [])
    (I2.env0.make C us []) (hb _ (Value.ref (s.heap.objs.size + 1) :: us) I2.kIn hl) r2 hq) fun r s' hq' => ?_))
  cases r with
  | error e => exact hx pins σ _ _ e s' I2 hq'
  | ok fl =>
    cases fl with
    | ret u =>
      obtain ⟨v, H', I3, rv, ev, q3⟩ := I2.after hq'
      subst ev
      exact ⟨rv, ⟨V.ref (s.heap.objs.size + 1), H', I3, rfl, q3⟩⟩
    | next => exact False.elim hq'
    | brk => exact False.elim hq'
    | cont => exact False.elim hq'
theorem pe_make (M : Mk X.K C f) (F : FnOk X.prog X.w X.K X.mg X.base CX k f fd ps sp) (hr : Room (k + 1) X.A) (hg : Gl X x) (hm : X.mg x = some (.ref C)) (hb : Binds X.K fd ps ds) (hd : Vals dvs ds) (hx : Passes CX X E)
    (ha : PA X (e :: es) t) (hdb : (x == ("__debug__" : Str)) = false := by decide) (he : starEach (e :: es) X.env = (false, eval e X.env) :: starEach es X.env := by rfl) (hpl : (backTo pos (starEach es X.env)).any (·.1) = false := by rfl) :
    PE X (.Call (.Name x p) (e :: es) [] pos) (tMake C sp dvs E t) := by
  intro pins s σ H Q I h
  refine wpAny_Call_Name_kw (ld_glob I hg hm ?_ hdb)
  refine PySem.W.callWith_K (h₀ := X.base) I.ok.mod.kin M.kp (thn (ha pos pins s σ H _ I h) fun us s1 ⟨vs, H1, I1, r, q⟩ => ⟨I1.kIn, ?_⟩) he hpl
  exact run_make M F hr hb hd hx I1 r q
end
noncomputable def PK (X : Cx) (kws : List Keyword) (t : TA) : Prop :=
  ∀ (pos : Pos) (pins : List (Addr × Obj)) (s : Shared) (σ : St) (H : Hp) (Q : List V → Hp → Prop), Inv X pins σ H s → t σ H Q → wpAny (model X.prog X.w) X.A (evalAll ((backToKw pos (keywordEach kws X.env)).map (·.2))) (AP X pins σ Q) X.xe s
section
variable {X : Cx} {CX : CXT} {k : Nat} {f C : Addr} {fd : FuncData} {ps ks : List Str} {sp : Sp} {E : XK} {x m : Str} {p pos apos kpos : Pos} {e o : Expr} {es : List Expr} {kws : List Keyword} {te ta : TE} {t tk : TA} {nm : Option Str}
theorem pk_nil : PK X [] tNil := fun _ _ _ _ H Q I h => wpAny_evalAll_nil ⟨[], H, I, .nil, h⟩
theorem pk_cons (ha : PE X e te) (hr : PK X kws t) : PK X (⟨nm, e, kpos⟩ :: kws) (tCons te t) := by
  intro pos pins s σ H Q I h
  show wpAny _ _ (evalAll ((do let v ← eval e X.env; standAt pos; pure v) :: (backToKw pos (keywordEach kws X.env)).map (·.2))) _ _ s
  refine wpAny_evalAll_cons (wpAny_bind (thn (ha pins s σ H _ I h) fun u s1 ⟨x, H1, I1, r1, q1⟩ => wpAny_bind (wpAny_standAt (wpAny_pure ?_))))
  exact thn (hr pos pins s1 σ H1 _ I1 q1) fun us s2 ⟨xs, H2, I2, r2, q2⟩ => ⟨x :: xs, H2, I2, .cons r1 r2, q2⟩

variable {g : List Value → List Value → List Value} {gV : List V → List V → List V}
end
structure FnScope (N P : List Str) (sc : Scope) : Prop where
  kind : sc.kind = .function
  co : sc.isCoroutine = false
  gen : sc.isGenerator = false
  nd : N.Nodup
  pre : N.take P.length = P
  par : ∀ x ∈ P, sc.names.lookup x = some .local ∨ sc.names.lookup x = some .cell
  nofree : ∀ y ∈ sc.names, y.2 ≠ .free

theorem bindL_out {kindOf : Str → Option NameKind} {x : Str} : ∀ {binds : List (Str × Value)} {m : Str → Option Value}, (∀ v, (x, v) ∉ binds) → bindL kindOf binds m x = m x
  | [], _, _ => rfl
  | (n, v) :: r, m, h => by
    unfold bindL
    rw [bindL_out fun w hw => h w (List.mem_cons_of_mem _ hw)]
    split
    · have : x ≠ n := by rintro rfl; exact h v List.mem_cons_self
      simp [this]
    · rfl
theorem bindC_out {kindOf : Str → Option NameKind} {x : Str} : ∀ {binds : List (Str × Value)} {m : Str → Option Value}, (∀ v, (x, v) ∉ binds) → bindC kindOf binds m x = m x
  | [], _, _ => rfl
  | (n, v) :: r, m, h => by
    unfold bindC
    rw [bindC_out fun w hw => h w (List.mem_cons_of_mem _ hw)]
    split
    · rfl
    · have : x ≠ n := by rintro rfl; exact h v List.mem_cons_self
      simp [this]
theorem bindL_get {kindOf : Str → Option NameKind} {x : Str} {v : Value} : ∀ {P : List Str} {vs : List Value} {i : Nat} {m : Str → Option Value}, P.Nodup → P[i]? = some x → vs[i]? = some v → kindOf x = some .local →
    bindL kindOf (P.zip vs) m x = some v
  | [], _, _, _, _, h, _, _ => by simp at h
  | _ :: _, [], _, _, _, _, h, _ => by simp at h
  | p :: P, w :: vs, 0, m, nd, h1, h2, hk => by
    simp at h1 h2; subst h1; subst h2
    show bindL kindOf ((p, w) :: P.zip vs) m p = _
    unfold bindL
    rw [bindL_out fun v hv => (List.nodup_cons.mp nd).1 (List.of_mem_zip hv).1, if_pos hk]
    simp
  | p :: P, w :: vs, i + 1, m, nd, h1, h2, hk => by
    show bindL kindOf ((p, w) :: P.zip vs) m x = _
    unfold bindL
    exact bindL_get (i := i) (List.nodup_cons.mp nd).2 (by simpa using h1) (by simpa using h2) hk
theorem bindC_get {kindOf : Str → Option NameKind} {x : Str} {v : Value} : ∀ {P : List Str} {vs : List Value} {i : Nat} {m : Str → Option Value}, P.Nodup → P[i]? = some x → vs[i]? = some v → kindOf x ≠ some .local →
    bindC kindOf (P.zip vs) m x = some v
  | [], _, _, _, _, h, _, _ => by simp at h
  | _ :: _, [], _, _, _, _, h, _ => by simp at h
  | p :: P, w :: vs, 0, m, nd, h1, h2, hk => by
    simp at h1 h2; subst h1; subst h2
    show bindC kindOf ((p, w) :: P.zip vs) m p = _
    unfold bindC
    rw [bindC_out fun v hv => (List.nodup_cons.mp nd).1 (List.of_mem_zip hv).1, if_neg hk]
    simp
  | p :: P, w :: vs, i + 1, m, nd, h1, h2, hk => by
    show bindC kindOf ((p, w) :: P.zip vs) m x = _
    unfold bindC
    exact bindC_get (i := i) (List.nodup_cons.mp nd).2 (by simpa using h1) (by simpa using h2) hk

noncomputable def start (N : List Str) (vs : List V) : St := vs.map some ++ List.replicate (N.length - vs.length) none

noncomputable def cxOf (CX : CXT) (P : Program) (w : World) (K : PySem.W.Frag) (mg : Str → Option Value) (base : Heap) (N : List Str) (qual : Str) (scope : Scope) (f : Addr) (cd : Value) (A : Around) (outer : List Env) (s : Shared) (H : Hp) (E : XK) : Cx where
  prog := P
  w := w
  K := K
  mg := mg
  base := base
  A := A.deeper (envOfC qual scope s.heap.objs.size f cd)
  N := N
  s₀ := s
  H₀ := H
  env := envOfC qual scope s.heap.objs.size f cd
  outer := outer
  stack := envOfC qual scope s.heap.objs.size f cd :: outer
  ex := []
  calm := true
  fn := fun _ => true
  pn := []
  xe := fun e s' => wpAny (model P w) (A.deeper (envOfC qual scope s.heap.objs.size f cd)) (leaving (envOfC qual scope s.heap.objs.size f cd) e) (fun _ s'' => CX outer H s E e s'') (fun e' s'' => CX outer H s E e' s'') s'

theorem cell_has {sc : Scope} {n : Nat} {x : Str} (h : sc.names.lookup x = some .cell) : ∃ c, (cellsFrom n sc.names []).lookup x = some c := by
  have q := PySem.W.cellsFrom_some sc.names n [] (.inl h)
  exact Option.isSome_iff_exists.mp q

theorem inv_start {CX : CXT} {P : Program} {w : World} {K : PySem.W.Frag} {mg : Str → Option Value} {base : Heap} {N ps : List Str} {qual : Str} {scope : Scope} {f : Addr} {cd : Value} {A : Around} {outer : List Env} {s s1 : Shared} {H : Hp} {E : XK} {us : List Value} {vs : List V}
    (S : FnScope N ps scope) (hd : A.handled = none) (e0 : Env0 P w K mg base A outer s H) (hl : vs.length = ps.length) (r : Vals vs us)
    (x : InCallC s s.heap.objs.size (bindL (envOfC qual scope s.heap.objs.size f cd).kindOf (ps.zip us) fun _ => none) (cellsFrom (s.heap.objs.size + 1) scope.names []) (bindC (envOfC qual scope s.heap.objs.size f cd).kindOf (ps.zip us) fun _ => none) s1) :
    Inv (cxOf CX P w K mg base N qual scope f cd A outer s H E) [] (start N vs) H s1 := by
  have hpl : ps.length ≤ N.length := by have := congrArg List.length S.pre; rw [List.length_take] at this; omega
  obtain ⟨h1, tk, rfl, hk⟩ := x.done
  have noA : ∀ b : Addr, b ∉ (cxOf CX P w K mg base N qual scope f cd A outer s H E).ex := fun b z => absurd (show b ∈ ([] : List Addr) from z) (by simp)
  refine ⟨⟨e0.mod, S.kind, rfl, rfl, Nat.le_refl _, fun y z c h1 h2 => ?_, fun y hy => ?_, fun y c _ h => ?_, fun _ => hd, Around.frames_deeper e0.frames, .inr ⟨rfl, rfl⟩, fun b z => absurd z (noA b), e0.bs, e0.bsz, fun b _ _ => noA b, fun b z => absurd z (noA b), e0.funs, e0.frf⟩,
    rfl, e0.bare, Un.kept hk, ⟨_, x.toInCall.ns, fun i y v h1 h2 h3 => ?_⟩, fun y c h => ⟨_, x.cell y c h⟩, e0.hok.fresh (Nat.le_refl _), fun y c h => ?_, fun p hp => absurd (show p ∈ ([] : List (Addr × Obj)) from hp) (by simp), e0.hok.kept hk, ?_⟩
  · exact name_of_addr x.apart (PySem.mem_of_lookup h1) (PySem.mem_of_lookup h2)
  · have hy : scope.names.lookup y = some .cell ∨ scope.names.lookup y = some .free := hy
    rcases hy with hy | hy
    · exact cell_has hy
    · exact absurd rfl (S.nofree _ (PySem.mem_of_lookup hy))
  · exact Nat.le_of_lt (x.above y c (PySem.mem_of_lookup h))
  · have hi : i < vs.length := by
      unfold start at h2
      by_cases hi : i < vs.length
      · exact hi
      · rw [List.getElem?_append_right (by simpa using hi)] at h2
        rw [List.getElem?_replicate] at h2
        split at h2 <;> cases h2
    have ha : vs[i]? = some v := by
      unfold start at h2
      rw [List.getElem?_append_left (by simpa using hi), List.getElem?_map] at h2
      cases e : vs[i]? with
      | none => rw [e] at h2; cases h2
      | some a => rw [e] at h2; cases h2; rfl
    obtain ⟨u, hu, rv⟩ := r.get ha
    have hp : ps[i]? = some y := by
      rw [← S.pre, List.getElem?_take_of_lt (by omega)]; exact h1
    have ndP : ps.Nodup := by rw [← S.pre]; exact S.nd.sublist (List.take_sublist _ _)
    refine ⟨u, rv, ?_⟩
    rcases S.par y (List.mem_of_getElem? hp) with k | k
    · exact .inl ⟨k, bindL_get ndP hp hu k⟩
    · obtain ⟨c, e⟩ := cell_has (n := s.heap.objs.size + 1) k
      refine .inr ⟨.inl k, c, e, ?_⟩
      have q := x.cell y c e
      rw [bindC_get ndP hp hu (by show scope.names.lookup y ≠ _; rw [k]; decide)] at q
      exact q
  · exact e0.hok.fresh (Nat.le_of_lt (x.above y c (PySem.mem_of_lookup h)))
  · unfold start
    show _ = N.length
    rw [List.length_append, List.length_map, List.length_replicate]
    omega

theorem fn_of {CX : CXT} {P : Program} {w : World} {K : PySem.W.Frag} {mg : Str → Option Value} {base : Heap} {k : Nat} {f : Addr} {name qual : Str} {params : Arguments} {body : List Stmt} {scope : Scope} {dV kV doc pm cdv ct oc : Value} {an od : Option Addr}
    {osl : Array (Option Value)} {N ps : List Str} {sp : Sp} (lk : K.lookup f = some ⟨oc, od, .func (PySem.W.fnOf name qual params body scope dV kV doc pm an cdv ct), osl⟩) (hcd : PySem.W.codeIn K cdv qual = true) (S : FnScope N ps scope)
    (len : ∀ vs H Q E, sp vs H Q E → vs.length = ps.length)
    (hbody : ∀ (A : Around) (outer : List Env) (s : Shared) (H : Hp) (vs : List V) (Q : VK) (E : XK), Room k (A.deeper (envOfC qual scope s.heap.objs.size f cdv)) → sp vs H Q E →
      ∃ t, PSs (cxOf CX P w K mg base N qual scope f cdv A outer s H E) body t ∧ t { nx := fun _ H' => Q .non H', rt := Q } (start N vs) H) :
    FnOk P w K mg base CX (k + 1) f (PySem.W.fnOf name qual params body scope dV kV doc pm an cdv ct) ps sp := by
  refine ⟨len, fun A outer s H args us vs Q E hr e0 hb r hsp => ?_⟩
  have hl := len _ _ _ _ hsp
  have KX : K.In s.heap := e0.mod.kin.keeps fun b o e => (e0.bs b o e).1
  have lim : s.heap.NoLimit := e0.mod.nolimit.keeps fun b o e => (e0.bs b o e).1
  have hkind : ∀ y ∈ ps.zip us, scope.names.lookup y.1 = some .local ∨ (scope.names.lookup y.1 = some .cell ∧ ((cellsFrom (s.heap.objs.size + 1) scope.names []).lookup y.1).isSome = true) := fun ⟨n, v⟩ hy => by
    rcases S.par n (List.of_mem_zip hy).1 with q | q
    · exact .inl q
    · exact .inr ⟨q, PySem.W.cellsFrom_some _ _ _ (.inl q)⟩
  refine codeAny_call_function hr.depth (KX _ _ lk) rfl S.co S.gen rfl (PySem.W.codeRec_of KX hcd) (hb _ _ _ _ ?_)
  refine wpAny_newFunctionEnv_cells S.kind hkind fun env he s1 x => ?_
  subst he
  refine ⟨lim.keeps x.toInCall.keep, codeAny_func ?_⟩
  obtain ⟨t, ht, hq⟩ := hbody A outer s H vs Q E (hr.deeper _) hsp
  have I : Inv (cxOf CX P w K mg base N qual scope f cdv A outer s H E) [] (start N vs) H s1 := inv_start S hr.hd e0 hl r x
  refine wpAny_mono (ht [] s1 (start N vs) H _ I hq) (fun fl s' hs => ?_) fun e s' hs => hs
  have fin : ∀ {σ' : St} {H' : Hp} {v : V} {u : Value}, Inv (cxOf CX P w K mg base N qual scope f cdv A outer s H E) [] σ' H' s' → RelV v u → Q v H' → CE outer P w H s Q u s' :=
    fun {σ' H' v u} J rv q => ⟨v, H', J.os, J.bare, J.base, J.hok, rv, q⟩
  cases fl with
  | ret u =>
    obtain ⟨v, σ', H', J, rv, q⟩ := hs
    exact fin J rv q
  | next =>
    obtain ⟨σ', H', J, q⟩ := hs
    exact fin (v := V.non) (u := Value.none) J rfl q
  | brk =>
    obtain ⟨_, _, _, q⟩ := hs
    exact False.elim q
  | cont =>
    obtain ⟨_, _, _, q⟩ := hs
    exact False.elim q
end L2
namespace L2
open PySem PySem.Spec PyProof.Rows
section
variable {X : Cx} {x : Str} {p pos : Pos} {e : Expr} {es : List Expr} {t : TA} {id T : String} {r : List V → Hp → VK → Prop}
noncomputable def tCB (r : List V → Hp → VK → Prop) (t : TA) : TE := fun σ H Q => t σ H fun vs H1 => r vs H1 Q
theorem pe_callB (hc : CallR X (.builtin id) r) (hg : Gl X x) (hm : X.mg x = none) (hv : bootBuiltins x = some (.builtin id)) (ha : PA X (e :: es) t) (hn : x ≠ "__name__" := by decide) (hdb : (x == ("__debug__" : Str)) = false := by decide)
    (he : starEach (e :: es) X.env = (false, eval e X.env) :: starEach es X.env := by rfl) (hpl : (backTo pos (starEach es X.env)).any (·.1) = false := by rfl) : PE X (.Call (.Name x p) (e :: es) [] pos) (tCB r t) := by
  intro pins s σ H Q I h
  refine wpAny_Call_Name_kw (ld_blt I hg hm hv ?_ hn hdb)
  exact PyProof.Rows.callWith_builtin1 (thn (ha pos pins s σ H _ I h) fun us s1 ⟨vs, H1, I1, r1, q1⟩ => hc pins s1 σ H1 vs us Q I1 r1 q1) he hpl
theorem pe_callTy (hc : CallR X (.type T) r) (hg : Gl X x) (hm : X.mg x = none) (hv : bootBuiltins x = some (.type T)) (ha : PA X (e :: es) t) (hn : x ≠ "__name__" := by decide) (hdb : (x == ("__debug__" : Str)) = false := by decide)
    (he : starEach (e :: es) X.env = (false, eval e X.env) :: starEach es X.env := by rfl) (hpl : (backTo pos (starEach es X.env)).any (·.1) = false := by rfl) : PE X (.Call (.Name x p) (e :: es) [] pos) (tCB r t) := by
  intro pins s σ H Q I h
  refine wpAny_Call_Name_kw (ld_blt I hg hm hv ?_ hn hdb)
  exact PyProof.Rows.callWith_type1 (thn (ha pos pins s σ H _ I h) fun us s1 ⟨vs, H1, I1, r1, q1⟩ => hc pins s1 σ H1 vs us Q I1 r1 q1) he hpl
end
end L2
namespace HT
open PySem PyProof.Rows
section
open PySem.SeqAt
open PySem.AutoSeq1 (wpAny_loadPart')
open PySem.MeetsSeq PySem.MeetsSeq2 PySem.MeetsSeq3
end
section
variable {prog : Program} {w : World} {A : Around} {E : Value → Shared → Prop} {s : Shared}
noncomputable def sIx (n d : Nat) : Option Int → Nat
  | none => d
  | some v => if v < 0 then (v + (n : Int)).toNat else min v.toNat n
theorem sIx_le (n d : Nat) (hd : d ≤ n) (o : Option Int) : sIx n d o ≤ n := by
  cases o with
  | none => exact hd
  | some v =>
    show (if v < 0 then (v + (n : Int)).toNat else min v.toNat n) ≤ n
    by_cases hv : v < 0
    · rw [if_pos hv]; omega
    · rw [if_neg hv]; exact Nat.min_le_right _ _
theorem clip_eq (v : Int) (n d : Nat) : (if v < 0 then max (v + (n : Int)) 0 else min v (n : Int)) = ((sIx n d (some v) : Nat) : Int) := by
  show (if v < 0 then max (v + (n : Int)) 0 else min v (n : Int)) = (((if v < 0 then (v + (n : Int)).toNat else min v.toNat n) : Nat) : Int)
  by_cases hv : v < 0
  · simp only [if_pos hv]; omega
  · simp only [if_neg hv]; omega
theorem adjust_gen (lo hi : Option Int) (n : Nat) : Builtin.Slice.sliceAdjust lo hi 1 (n : Int) = (((sIx n 0 lo : Nat) : Int), ((sIx n n hi : Nat) : Int)) := by
  have h1 : ¬ ((1 : Int) < 0) := by omega
  unfold Builtin.Slice.sliceAdjust
  simp only [h1, if_false]
  refine Prod.ext ?_ ?_
  · cases lo with
    | none => rfl
    | some v => exact clip_eq v n 0
  · cases hi with
    | none => rfl
    | some v => exact clip_eq v n n
theorem places_gen (i j : Nat) : Builtin.Slice.slicePlaces (i : Int) (j : Int) 1 = j - i := by
  unfold Builtin.Slice.slicePlaces
  have h1 : (1 : Int) > 0 := by omega
  simp only [h1, if_true, Int.ediv_one]
  split <;> omega
theorem slicePart_ {v : Value} {o : Option Int} {Q : Option Int → Shared → Prop} (p : IsPart v o) (h : Q o s) : wpAny (model prog w) A (Builtin.Slice.slicePartIndex v) Q E s := by
  cases p with
  | none => exact slicePart_none h
  | int i t => exact slicePart_int h
theorem sliceApplied_gen {sl : Addr} {vl vu : Value} {lo hi : Option Int} {n : Nat} {Q : Int × Int × Nat → Shared → Prop} (hs : s.heap.IsSliceOf sl vl vu .none) (pl : IsPart vl lo) (pu : IsPart vu hi)
    (h : Q (((sIx n 0 lo : Nat) : Int), 1, sIx n n hi - sIx n 0 lo) s) : wpAny (model prog w) A (Builtin.Slice.sliceApplied (.ref sl) (pure (n : Int))) Q E s := by
  obtain ⟨os, hos, hcs, hds⟩ := id hs
  unfold Builtin.Slice.sliceApplied Builtin.Slice.sliceFields
  refine wpAny_bind (wpAny_bind (wpAny_field hos hds (x := vl) rfl (wpAny_bind (wpAny_field hos hds (x := vu) rfl (wpAny_bind (wpAny_field hos hds (x := .none) rfl (wpAny_pure ?_)))))))
  refine wpAny_bind (slicePart_none ?_)
  show wpAny _ _ (if ((1 : Int) == 0) = true then _ else _) _ _ s
  rw [if_neg (by decide)]
  refine wpAny_bind (slicePart_ pl (wpAny_bind (slicePart_ pu (wpAny_bind (wpAny_pure ?_)))))
  show wpAny _ _ (match Builtin.Slice.sliceAdjust lo hi 1 (n : Int) with | (lo, hi) => pure (lo, (1 : Int), Builtin.Slice.slicePlaces lo hi 1)) _ _ s
  rw [adjust_gen lo hi n]
  show wpAny _ _ (pure (((sIx n 0 lo : Nat) : Int), (1 : Int), Builtin.Slice.slicePlaces ((sIx n 0 lo : Nat) : Int) ((sIx n n hi : Nat) : Int) 1)) _ _ s
  rw [places_gen]
  exact wpAny_pure h
theorem pick_gen (xs : Array Value) (i k : Nat) : ((List.range k).filterMap fun (m : Nat) => xs[((i : Int) + (m : Int) * 1).toNat]?).toArray = ((xs.toList.drop i).take k).toArray := by
  have e : (fun (m : Nat) => xs[((i : Int) + (m : Int) * 1).toNat]?) = fun m => xs[i + m]? := by
    funext m
    have : ((i : Int) + (m : Int) * 1).toNat = i + m := by omega
    rw [this]
  rw [e]
  have := pick_run xs i k
  rw [List.filterMap_map] at this
  have e2 : ((fun x => xs[x]?) ∘ fun x => i + x) = fun m => xs[i + m]? := rfl
  rw [e2] at this
  rw [this]

theorem getItem_tuple_cut {t sl : Addr} {items : Array Value} {vl vu : Value} {lo hi : Option Int} {Q : Value → Shared → Prop} (ht : IsTup s.heap t items) (hs : s.heap.IsSliceOf sl vl vu .none) (pl : IsPart vl lo) (pu : IsPart vu hi)
    (hw : ¬ (sIx items.size 0 lo = 0 ∧ sIx items.size items.size hi = items.size))
    (h : Q (.ref s.heap.objs.size) { s with heap := s.heap.push { cls := .type "tuple", data := .seq ((items.toList.drop (sIx items.size 0 lo)).take (sIx items.size items.size hi - sIx items.size 0 lo)).toArray } })
    (hsz : items.size ≤ sizeLine) : wpAny (model prog w) A (getItem (.ref t) (.ref sl)) Q E s := by
  have htake : sizeOk (.seq ((items.toList.drop (sIx items.size 0 lo)).take (sIx items.size items.size hi - sIx items.size 0 lo)).toArray) := by
    show ((items.toList.drop (sIx items.size 0 lo)).take (sIx items.size items.size hi - sIx items.size 0 lo)).toArray.size ≤ sizeLine
    rw [List.size_toArray, List.length_take, List.length_drop, Array.length_toList]
    omega
  have hj : sIx items.size items.size hi ≤ items.size := sIx_le _ _ (Nat.le_refl _) hi
  obtain ⟨os, hos, hcs, hds⟩ := id hs
  have hTs : s.TypeIs (.ref sl) "slice" := ⟨os, hos, hcs⟩
  unfold getItem
  try with_reducible refine wpAny_holding ?_
  first | refine wpAny_bind (wpAny_pure ?_) | skip
  refine wpAny_bind (wpAny_sequenceKey ht.typeIs (by decide) ?_)
  refine wpAny_bind (wpAny_callSpecial?_slot (name := Str.ofString "__getitem__") ht.typeIs PyProof.Rows.slot_tuple_getitem
    (wpAny_call_entry PyProof.Rows.slot_tuple_getitem ht.typeIs entry_tuple_getitem ?_ (args_tuple_getitem _ _)))
  show wpAny _ _ (Builtin.Tuple.tupleItemsOf (.ref t) >>= _) _ _ s
  refine wpAny_bind (tupleItemsOf_ ht ?_)
  refine wpAny_bind (wpAny_typeOf hTs ?_)
  rw [if_pos (by decide)]
  refine wpAny_bind (sliceApplied_gen hs pl pu ?_)
  have hno : ¬ ((((sIx items.size 0 lo : Nat) : Int) == 0 && (1 : Int) == 1 && (sIx items.size items.size hi - sIx items.size 0 lo) == items.size) = true) := by
    intro q
    rw [Bool.and_eq_true, Bool.and_eq_true] at q
    have q1 : ((sIx items.size 0 lo : Nat) : Int) = 0 := eq_of_beq q.1.1
    have q2 : sIx items.size items.size hi - sIx items.size 0 lo = items.size := eq_of_beq q.2
    exact hw ⟨by omega, by omega⟩
  show wpAny _ _ (if (((sIx items.size 0 lo : Nat) : Int) == 0 && (1 : Int) == 1 && (sIx items.size items.size hi - sIx items.size 0 lo) == items.size) = true then _ else _) _ _ s
  rw [if_neg hno, pick_gen]
  first
    | exact wpAny_bind (m := Builtin.Tuple.tupleExact _) (wpAny_newObj_type (wpAny_pure ⟨_, rfl, wpAny_pure h⟩) htake)
    | exact wpAny_bind (m := Builtin.Tuple.tupleExact _) (wpAny_newObj_type (wpAny_bind (wpAny_pure (wpAny_pure ⟨_, rfl, wpAny_pure h⟩))) htake)
    | exact wpAny_bind (wpAny_bind (m := Builtin.Tuple.tupleExact _) (wpAny_newObj_type (wpAny_pure (wpAny_pure ⟨_, rfl, wpAny_pure h⟩)) htake))
    | exact wpAny_bind (wpAny_bind (m := Builtin.Tuple.tupleExact _) (wpAny_newObj_type (wpAny_pure ⟨_, rfl, wpAny_pure h⟩) htake))
end
end HT
namespace L2
open PySem PySem.Spec PyProof.Rows
noncomputable abbrev TO := St → Hp → (Option Int → Hp → Prop) → Prop
noncomputable def PO (X : Cx) (e : Option Expr) (t : TO) : Prop :=
  ∀ (pins : List (Addr × Obj)) (s : Shared) (σ : St) (H : Hp) (Q : Option Int → Hp → Prop), Inv X pins σ H s → t σ H Q →
    wpAny (model X.prog X.w) X.A (evalPart e X.env) (fun u s' => ∃ o H', Inv X pins σ H' s' ∧ IsPart u o ∧ Q o H') X.xe s
noncomputable def tNoPart : TO := fun _ H Q => Q none H
noncomputable def tPart (t : TE) : TO := fun σ H Q => t σ H fun x H1 => ∃ i, x = .int i ∧ Q (some i) H1

section
variable {X : Cx} {e : Expr} {te : TE} {lo hi : Option Expr} {tl th : TO} {pos p2 : Pos}
theorem po_none : PO X none tNoPart := by
  intro pins s σ H Q I h
  rw [evalPart_none]
  exact wpAny_pure ⟨none, H, I, .none, h⟩
theorem po_some (h : PE X e te) : PO X (some e) (tPart te) := by
  intro pins s σ H Q I hw
  rw [evalPart_some]
  refine thn (h pins s σ H _ I hw) fun u s1 ⟨x, H1, I1, r1, q1⟩ => ?_
  obtain ⟨i, rfl, q⟩ := q1
  obtain ⟨t, rfl⟩ := r1
  exact ⟨some i, H1, I1, .int i t, q⟩

noncomputable def SlR (X : Cx) (r : V → Option Int → Option Int → Hp → VK → Prop) : Prop :=
  ∀ (pins : List (Addr × Obj)) (s : Shared) (σ : St) (H : Hp) (x : V) (v vl vu : Value) (lo hi : Option Int) (sl : Addr) (Q : VK), Inv X pins σ H s → RelV x v → s.heap.IsSliceOf sl vl vu .none → IsPart vl lo → IsPart vu hi → r x lo hi H Q →
    ∃ T id, typeLookup (.type T) "__getitem__" = pure (some (.builtin id)) ∧ s.TypeIs v T ∧ wpAny (model X.prog X.w) X.A (getItem v (.ref sl)) (EP X pins σ Q) X.xe s
theorem SlR.or {r r' : V → Option Int → Option Int → Hp → VK → Prop} (h : SlR X r) (h' : SlR X r') : SlR X (fun x lo hi H Q => r x lo hi H Q ∨ r' x lo hi H Q) := by
  intro pins s σ H x v vl vu lo hi sl Q I rx hs pl pu q
  rcases q with q | q
  · exact h pins s σ H x v vl vu lo hi sl Q I rx hs pl pu q
  · exact h' pins s σ H x v vl vu lo hi sl Q I rx hs pl pu q
noncomputable def tSl (r : V → Option Int → Option Int → Hp → VK → Prop) (te : TE) (tl th : TO) : TE := fun σ H Q => te σ H fun x H1 => tl σ H1 fun l H2 => th σ H2 fun u H3 => r x l u H3 Q
theorem pe_slice {r : V → Option Int → Option Int → Hp → VK → Prop} (hr : SlR X r) (he : PE X e te) (hl : PO X lo tl) (hu : PO X hi th) : PE X (.Subscript e (.Slice lo hi none p2) pos) (tSl r te tl th) := by
  intro pins s σ H Q I h
  refine Subscript_ (thn (he pins s σ H _ I h) fun v s1 ⟨x, H1, I1, r1, q1⟩ => ?_)
  refine wpAny_Slice (thn (hl pins s1 σ H1 _ I1 q1) fun vl s2 ⟨l, H2, I2, pl, q2⟩ => thn (hu pins s2 σ H2 _ I2 q2) fun vu s3 ⟨u, H3, I3, pu, q3⟩ => ?_)
  rw [evalPart_none]
  refine wpAny_pure ?_
  have I4 : Inv X pins σ H3 { s3 with heap := s3.heap.push { cls := .type "slice", data := .fields #[vl, vu, .none] } } := I3.kept (t' := s3.toks) fun b ob q => Heap.get?_push_of_some _ q
  obtain ⟨T, id, hT, ht, hg⟩ := hr pins { s3 with heap := s3.heap.push { cls := .type "slice", data := .fields #[vl, vu, .none] } } σ H3 x v vl vu l u s3.heap.objs.size Q I4 r1 (Heap.IsSliceOf.new ..) pl pu q3
  show wpAny (model X.prog X.w) X.A (subscriptTail e (.Slice lo hi none p2) v (.ref s3.heap.objs.size)) (EP X pins σ Q) X.xe { s3 with heap := s3.heap.push { cls := .type "slice", data := .fields #[vl, vu, .none] } }
  exact tail_any (ops := [.ref s3.heap.objs.size, v]) ht hT hg (by with_unfolding_all rfl)

noncomputable def cutV (xs : List V) (lo hi : Option Int) : List V := (xs.drop (HT.sIx xs.length 0 lo)).take (HT.sIx xs.length xs.length hi - HT.sIx xs.length 0 lo)
theorem cutV_length (xs : List V) (lo hi : Option Int) : (cutV xs lo hi).length ≤ xs.length := by
  unfold cutV
  rw [List.length_take, List.length_drop]
  omega
noncomputable def rSlT (K : PySem.W.Frag) : V → Option Int → Option Int → Hp → VK → Prop := fun x lo hi H Q => ∃ a xs, x = .ref a ∧ SqT K H a xs ∧
  ¬ (HT.sIx xs.length 0 lo = 0 ∧ HT.sIx xs.length xs.length hi = xs.length) ∧ ∀ p, H p = none → Q (.ref p) (upd H p (.tup (cutV xs lo hi)))
theorem sl_tup : SlR X (rSlT X.K) := by
  intro pins s σ H x v vl vu lo hi sl Q I rx hs pl pu h
  obtain ⟨a, xs, rfl, hx, hw, q⟩ := h
  cases rx
  obtain ⟨its, r, ht, hz⟩ := I.tuple hx
  have hlen : its.toArray.size = xs.length := by rw [List.size_toArray]; exact r.length.symm
  refine ⟨"tuple", _, PyProof.Rows.slot_tuple_getitem.lookup, ht.typeIs, ?_⟩
  refine HT.getItem_tuple_cut ht hs pl pu (by rw [hlen]; exact hw) ?_ (by rw [hlen]; exact hz)
  rw [hlen]
  refine ⟨.ref s.heap.objs.size, _, I.laid (t' := s.toks) (o := .tup (cutV xs lo hi)) (fun b ob q => Heap.get?_push_of_some _ q) (Nat.le_refl _) ?_, rfl, q _ (I.hok.fresh (Nat.le_refl _))⟩
  exact ⟨Nat.le_trans (cutV_length xs lo hi) hz, _, (r.drop (HT.sIx xs.length 0 lo)).take (HT.sIx xs.length xs.length hi - HT.sIx xs.length 0 lo), IsTup.new _ _⟩

end
end L2
namespace L2
open PySem PySem.Spec PyProof.Rows
noncomputable def ixN (n : Nat) (i : Int) : Option Nat := if 0 ≤ i then (if i < n then some i.toNat else none) else if -(n : Int) ≤ i then some (i + n).toNat else none
noncomputable def atI {α : Type} (xs : List α) (i : Int) : Option α := (ixN xs.length i).bind fun j => xs[j]?
theorem ixN_seq {n : Nat} {i : Int} {j : Nat} (h : ixN n i = some j) : seqIndex? i n = some j ∧ j < n ∧ -(n : Int) ≤ i ∧ i < n := by
  unfold ixN at h
  by_cases h0 : 0 ≤ i
  · rw [if_pos h0] at h
    by_cases h1 : i < n
    · rw [if_pos h1] at h
      have e : i.toNat = j := Option.some.inj h
      exact ⟨by rw [seqIndex_of h0 h1, e], by omega, by omega, h1⟩
    · rw [if_neg h1] at h; cases h
  · rw [if_neg h0] at h
    by_cases h1 : -(n : Int) ≤ i
    · rw [if_pos h1] at h
      have e : (i + n).toNat = j := Option.some.inj h
      exact ⟨by rw [seqIndex_neg (by omega) h1, e], by omega, h1, by omega⟩
    · rw [if_neg h1] at h; cases h
theorem atI_get {α : Type} {xs : List α} {i : Int} {v : α} (h : atI xs i = some v) : ∃ j, seqIndex? i xs.length = some j ∧ xs[j]? = some v ∧ j < xs.length ∧ -(xs.length : Int) ≤ i ∧ i < xs.length := by
  unfold atI at h
  cases e : ixN xs.length i with
  | none => rw [e] at h; cases h
  | some j =>
    rw [e] at h
    obtain ⟨h1, h2, h3, h4⟩ := ixN_seq e
    exact ⟨j, h1, h, h2, h3, h4⟩
theorem atI_nat {α : Type} {xs : List α} {j : Nat} {v : α} (h : xs[j]? = some v) : atI xs (j : Int) = some v := by
  have hj : j < xs.length := (List.getElem?_eq_some_iff.mp h).1
  have e : ixN xs.length (j : Int) = some j := by
    unfold ixN
    rw [if_pos (by omega), if_pos (by omega)]; simp
  unfold atI; rw [e]; exact h
noncomputable def PlainIx (b : Expr) : Prop := ∀ o i, subscripted b false o i = operate [o, i] (getItem o i)
noncomputable def IxR (X : Cx) (r : R2) : Prop :=
  ∀ (value slice : Expr) (pins : List (Addr × Obj)) (s : Shared) (σ : St) (H : Hp) (x y : V) (v u : Value) (Q : VK), Inv X pins σ H s → RelV x v → RelV y u → r x y H Q →
    subscripted slice false v u = operate [v, u] (getItem v u) → wpAny (model X.prog X.w) X.A (subscriptTail value slice v u) (EP X pins σ Q) X.xe s
noncomputable def MtR (X : Cx) (id : String) (r : V → List V → Hp → VK → Prop) : Prop :=
  ∀ (pins : List (Addr × Obj)) (s : Shared) (σ : St) (H : Hp) (x : V) (xs : List V) (v : Value) (us : List Value) (Q : VK), Inv X pins σ H s → RelV x v → Vals xs us → r x xs H Q →
    wpAny (model X.prog X.w) X.A (call (.builtin id) (v :: us)) (EP X pins σ Q) X.xe s
section
variable {X : Cx} {a b : Expr} {ta tb : TE} {pos : Pos}
theorem IxR.or {r r' : R2} (h : IxR X r) (h' : IxR X r') : IxR X (fun x y H Q => r x y H Q ∨ r' x y H Q) := by
  intro value slice pins s σ H x y v u Q I rx ry q hs
  rcases q with q | q
  · exact h value slice pins s σ H x y v u Q I rx ry q hs
  · exact h' value slice pins s σ H x y v u Q I rx ry q hs
theorem pe_ix {r : R2} (hr : IxR X r) (ha : PE X a ta) (hb : PE X b tb) (hs : PlainIx b) : PE X (.Subscript a b pos) (tOp r ta tb) := by
  intro pins s σ H Q I h
  exact Subscript_ (binT ha hb I h fun v u s2 x y H2 I2 rx ry q => hr a b pins s2 σ H2 x y v u Q I2 rx ry q (hs _ _))

noncomputable def rIxL (K : PySem.W.Frag) : R2 := fun x y H Q => ∃ p xs i v, x = .ref p ∧ y = .int i ∧ SqL K H p xs ∧ atI xs i = some v ∧ Q v H
noncomputable def rIxT (K : PySem.W.Frag) : R2 := fun x y H Q => ∃ p xs i v, x = .ref p ∧ y = .int i ∧ SqT K H p xs ∧ atI xs i = some v ∧ Q v H
noncomputable def rIxS : R2 := fun x y H Q => ∃ z i c, x = .str z ∧ y = .int i ∧ z.length ≤ sizeLine ∧ atI z.cps.toList i = some c ∧ Q (.str ⟨#[c]⟩) H
theorem ix_list : IxR X (rIxL X.K) := by
  intro value slice pins s σ H x y v u Q I rx ry h hs
  obtain ⟨p, xs, i, z, rfl, rfl, hq, he, q⟩ := h
  cases rx
  obtain ⟨t, rfl⟩ := ry
  obtain ⟨its, r, pl, hz⟩ := I.list hq
  obtain ⟨j, h1, h2, h3, h4, h5⟩ := atI_get he
  obtain ⟨w, ew, rw'⟩ := r.get h2
  have hl := r.length
  have hn := line63
  have fin : EP X pins σ Q w s := ⟨z, H, I, rw', q⟩
  by_cases h0 : 0 ≤ i
  · have hj : i.toNat = j := by
      rw [seqIndex_of h0 h5] at h1
      exact Option.some.inj h1
    exact item_listR pl.isList h0 (by omega) (by rw [hj]; simpa using ew) fin hs
  · have hj : (i + (its.toArray.size : Int)).toNat = j := by
      rw [seqIndex_neg (by omega) h4] at h1
      rw [List.size_toArray, ← hl]
      exact Option.some.inj h1
    exact subscriptTail_builtinR (x := w) pl.isList.typeIs slot_list_getitem.lookup
      (wpAny_getItem_list_neg (Q := fun r s' => r = w ∧ EP X pins σ Q r s') pl.isList (by omega) (by rw [List.size_toArray] <;> omega) (by omega) (by rw [hj]; simpa using ew) ⟨rfl, fin⟩) hs
theorem ix_tup : IxR X (rIxT X.K) := by
  intro value slice pins s σ H x y v u Q I rx ry h hs
  obtain ⟨p, xs, i, z, rfl, rfl, hq, he, q⟩ := h
  cases rx
  obtain ⟨t, rfl⟩ := ry
  obtain ⟨its, r, pl, hz⟩ := I.tuple hq
  obtain ⟨j, h1, h2, h3, h4, h5⟩ := atI_get he
  obtain ⟨w, ew, rw'⟩ := r.get h2
  have hl := r.length
  have hn := line63
  have fin : EP X pins σ Q w s := ⟨z, H, I, rw', q⟩
  exact subscriptTail_builtinR (x := w) pl.typeIs slot_tuple_getitem.lookup
    (getItem_tuple (j := j) (Q := fun r s' => r = w ∧ EP X pins σ Q r s') pl (by omega) (by omega) (by rw [List.size_toArray, ← hl]; exact h1) (by simpa using ew) ⟨rfl, fin⟩) hs
theorem ix_str : IxR X rIxS := by
  intro value slice pins s σ H x y v u Q I rx ry h hs
  obtain ⟨z, i, c, rfl, rfl, hz, he, q⟩ := h
  obtain ⟨t, rfl⟩ := rx
  obtain ⟨t', rfl⟩ := ry
  obtain ⟨j, h1, h2, h3, h4, h5⟩ := atI_get he
  have hl : z.cps.toList.length = z.length := by simp [Str.length]
  rw [hl] at h1 h4 h5
  have hn := line63
  exact tail_any (typeIs_str s z t) slot_str_getitem.lookup (getItem_str (c := c) (by
    have e1 : decide (i < -(2 ^ 63 : Int)) = false := decide_eq_false (by omega)
    have e2 : decide (i ≥ 2 ^ 63) = false := decide_eq_false (by omega)
    rw [e1, e2, Bool.or_false]) (by rw [h1]; simpa using h2) ⟨.str ⟨#[c]⟩, H, I.tok _, ⟨_, rfl⟩, q⟩) hs
noncomputable def rIx (K : PySem.W.Frag) : R2 := fun x y H Q => rIxL K x y H Q ∨ rIxT K x y H Q ∨ rIxS x y H Q
theorem ix_seq : IxR X (rIx X.K) := ix_list.or (ix_tup.or ix_str)

theorem slice_bounds (lo hi : Option Int) (n : Nat) : (sliceBounds lo hi none n).1 = ((HT.sIx n 0 lo : Nat) : Int) ∧ (sliceBounds lo hi none n).2.1 = ((HT.sIx n n hi : Nat) : Int) ∧ (sliceBounds lo hi none n).2.2 = 1 := by
  refine ⟨?_, ?_, rfl⟩
  · cases lo with
    | none => simp [sliceBounds, HT.sIx]
    | some i =>
      simp only [sliceBounds, HT.sIx, Option.getD_none, show (1 : Int) > 0 by decide, if_true]
      by_cases h : i < 0
      · simp only [h, if_true] <;> omega
      · simp only [h, if_false] <;> omega
  · cases hi with
    | none => simp [sliceBounds, HT.sIx]
    | some i =>
      simp only [sliceBounds, HT.sIx, Option.getD_none, show (1 : Int) > 0 by decide, if_true]
      by_cases h : i < 0
      · simp only [h, if_true] <;> omega
      · simp only [h, if_false] <;> omega
theorem slicePick_cut (its : List Value) (lo hi : Option Int) : slicePick its.toArray lo hi none = ((its.drop (HT.sIx its.length 0 lo)).take (HT.sIx its.length its.length hi - HT.sIx its.length 0 lo)).toArray := by
  obtain ⟨h1, h2, h3⟩ := slice_bounds lo hi its.toArray.size
  unfold slicePick
  rw [h1, h2, h3]
  simp only [sliceRange_one, pick_run, List.size_toArray] <;> rfl
noncomputable def rSlL (K : PySem.W.Frag) : V → Option Int → Option Int → Hp → VK → Prop := fun x lo hi H Q => ∃ a xs, x = .ref a ∧ SqL K H a xs ∧ ∀ p, H p = none → Q (.ref p) (upd H p (.lst (cutV xs lo hi)))
theorem sl_list : SlR X (rSlL X.K) := by
  intro pins s σ H x v vl vu lo hi sl Q I rx hs pl pu h
  obtain ⟨a, xs, rfl, hx, q⟩ := h
  cases rx
  obtain ⟨its, r, ht, hz⟩ := I.list hx
  have hlen := r.length
  refine ⟨"list", _, slot_list_getitem.lookup, ht.isList.typeIs, ?_⟩
  refine wpAny_getItem_list_slice ht.isList hs pl pu .none (by simp) ?_ (by rw [List.size_toArray] <;> omega)
  rw [slicePick_cut, ← hlen]
  refine ⟨.ref s.heap.objs.size, _, I.laid (t' := s.toks) (o := .lst (cutV xs lo hi)) (fun b ob q => Heap.get?_push_of_some _ q) (Nat.le_refl _) ?_, rfl, q _ (I.hok.fresh (Nat.le_refl _))⟩
  exact ⟨Nat.le_trans (cutV_length xs lo hi) hz, _, 0, (r.drop (HT.sIx xs.length 0 lo)).take (HT.sIx xs.length xs.length hi - HT.sIx xs.length 0 lo), Heap.get?_push_size _ rfl⟩

theorem call_len_seq : CallR X (.builtin "len") (fun xs H Q => ∃ p ys, xs = [.ref p] ∧ (SqL X.K H p ys ∨ SqT X.K H p ys) ∧ Q (.int ys.length) H) := by
  intro pins s σ H xs us Q I r h
  obtain ⟨p, ys, rfl, hq, q⟩ := h
  obtain ⟨u, rfl, rx⟩ := vals1 r
  cases rx
  have hn := line63
  rcases hq with hq | hq
  · obtain ⟨its, r', pl, hz⟩ := I.list hq
    have hlen := r'.length
    exact Calls.call_len_list pl.isList (by simp only [List.size_toArray] <;> omega) ⟨.int ys.length, H, I.tok _, ⟨s.toks + 1, by rw [List.size_toArray, hlen]⟩, q⟩
  · obtain ⟨its, r', pl, hz⟩ := I.tuple hq
    have hlen := r'.length
    exact len_tuple pl (by simp only [List.size_toArray] <;> omega) ⟨.int ys.length, H, I.tok _, ⟨s.toks + 1, by rw [List.size_toArray, hlen]⟩, q⟩
theorem call_list_of : CallR X (.type "list") (fun xs H Q => ∃ p ys, xs = [.ref p] ∧ (SqL X.K H p ys ∨ SqT X.K H p ys) ∧ ∀ l, H l = none → Q (.ref l) (upd H l (.lst ys))) := by
  intro pins s σ H xs us Q I r h
  obtain ⟨p, ys, rfl, hq, q⟩ := h
  obtain ⟨u, rfl, rx⟩ := vals1 r
  cases rx
  have fin : ∀ (its : List Value), Vals ys its → ys.length ≤ sizeLine → ∀ (h' : Heap) (c' : Nat), (∀ b o', s.heap.get? b = some o' → h'.get? b = some o') →
      h'.get? s.heap.objs.size = some { cls := .type "list", dict := none, data := .seq its.toArray c', slots := #[] } → EP X pins σ Q (.ref s.heap.objs.size) { s with heap := h' } := fun its r' hz h' c' kp e =>
    ⟨.ref s.heap.objs.size, _, I.laid (t' := s.toks) kp (Nat.le_refl _) (show ObjOk X.prog X.w _ h' _ (.lst ys) from ⟨hz, its, c', r', e⟩), rfl, q _ (I.hok.fresh (Nat.le_refl _))⟩
  rcases hq with hq | hq
  · obtain ⟨its, r', pl, hz⟩ := I.list hq
    have hlen := r'.length
    obtain ⟨o, ho, hc, n, hd⟩ := pl.isList
    exact call_list_seq p (.inl rfl) ho hc hd (fun h' c' kp e => fin its r' hz h' c' kp e) (by simp only [List.size_toArray] <;> omega)
  · obtain ⟨its, r', pl, hz⟩ := I.tuple hq
    have hlen := r'.length
    obtain ⟨o, ho, hc, n, hd⟩ := pl
    exact call_list_seq p (.inr rfl) ho hc hd (fun h' c' kp e => fin its r' hz h' c' kp e) (by simp only [List.size_toArray] <;> omega)
noncomputable def tyV (K : PySem.W.Frag) (T : String) (x : V) (H : Hp) : Prop := match x with
  | .str _ => T = "str"
  | .int _ => T = "int"
  | .ref p => (T = "list" ∧ ∃ xs, SqL K H p xs) ∨ (T = "tuple" ∧ ∃ o, K.lookup p = some o ∧ o.cls = .type "tuple" ∧ o.dict = none) ∨
      (T = "dict" ∧ ((∃ kvs, H p = some (.dK kvs)) ∨ ∃ kvs, H p = some (.dT kvs))) ∨ (T = "set" ∧ ∃ S n, H p = some (.set S n))
  | _ => False
theorem tyV_is {pins : List (Addr × Obj)} {σ : St} {H : Hp} {s : Shared} {T : String} {x : V} {v : Value} (I : Inv X pins σ H s) (r : RelV x v) (ty : tyV X.K T x H) :
    s.TypeIs v T ∧ ∀ a, v = .ref a → ∃ ob, s.heap.get? a = some ob ∧ ob.dict = none := by
  cases x with
  | str z =>
    obtain ⟨t, rfl⟩ := r
    cases (show T = "str" from ty)
    exact ⟨typeIs_str s z t, fun _ e => nomatch e⟩
  | int i =>
    obtain ⟨t, rfl⟩ := r
    cases (show T = "int" from ty)
    exact ⟨typeIs_int s i t, fun _ e => nomatch e⟩
  | ref p =>
    cases r
    rcases ty with ⟨rfl, xs, hq⟩ | ⟨rfl, o, hk, hc, hd⟩ | ⟨rfl, hk⟩ | ⟨rfl, S, n, hk⟩
    · obtain ⟨its, _, pl, _⟩ := I.list hq
      refine ⟨pl.isList.typeIs, fun a e => ?_⟩
      cases e
      obtain ⟨o, n, e, c, hd, _⟩ := pl
      exact ⟨o, e, hd⟩
    · refine ⟨⟨o, I.kIn p o hk, hc⟩, fun a e => ?_⟩
      cases e
      exact ⟨o, I.kIn _ o hk, hd⟩
    · have z : ∃ o, s.heap.get? p = some o ∧ o.ExactDict := by
        rcases hk with ⟨kvs, hk⟩ | ⟨kvs, hk⟩
        · obtain ⟨_, _, _, _, o, _, _, e, ex, _⟩ := I.hok p _ hk
          exact ⟨o, e, ex⟩
        · obtain ⟨_, _, _, _, o, _, _, e, ex, _⟩ := I.hok p _ hk
          exact ⟨o, e, ex⟩
      obtain ⟨o, e, ex⟩ := z
      refine ⟨⟨o, e, ex.1⟩, fun a e2 => ?_⟩
      cases e2
      exact ⟨o, e, ex.2.1⟩
    · obtain ⟨o, _, _, _, e, ex, _⟩ := I.hok p _ hk
      refine ⟨⟨o, e, ex.1⟩, fun a e2 => ?_⟩
      cases e2
      exact ⟨o, e, ex.2.1⟩
  | _ => exact False.elim ty
noncomputable def tBM (K : PySem.W.Frag) (T : String) (r : V → List V → Hp → VK → Prop) (to : TE) (t : TA) : TE := fun σ H Q => to σ H fun x H1 => tyV K T x H1 ∧ t σ H1 fun xs H2 => r x xs H2 Q
variable {o e : Expr} {es : List Expr} {to : TE} {t : TA} {name : Str} {apos cpos : Pos} {T id : String} {r : V → List V → Hp → VK → Prop}
theorem pe_bm (pa : PlainAttrs T) (slot : Slot T name id) (hty : typeOf (.builtin id) = pure (.type "method_descriptor")) (hm : MtR X id r) (ho : PE X o to) (ha : PA X (e :: es) t)
    (hbase : attributeBase o name X.env (eval o X.env) = eval o X.env := by rfl)
    (hfew : ((backTo cpos (starEach (e :: es) X.env)).all (fun x => !x.1) && (backToKw cpos (keywordEach [] X.env)).all (fun x => x.1.isSome)
      && decide ((e :: es).length + ([] : List Keyword).length + (if ([] : List Keyword).isEmpty then 0 else 1) < 30)) = true := by rfl)
    (hline : (apos.endLine == cpos.line) = true := by rfl) (hs : starEach (e :: es) X.env = (false, eval e X.env) :: starEach es X.env := by rfl) (hplain : (backTo cpos (starEach es X.env)).any (·.1) = false := by rfl) :
    PE X (.Call (.Attribute o name apos) (e :: es) [] cpos) (tBM X.K T r to t) := by
  intro pins s σ H Q I h
  refine wpAny_Call_method_late hbase hfew hline rfl (thn (ho pins s σ H _ I h) fun v s1 ⟨x, H1, I1, r1, ty, q1⟩ => ?_)
  obtain ⟨h1, h2⟩ := tyV_is I1 r1 ty
  refine ⟨T, id, pa, slot, hty, h1, h2, ?_⟩
  have hA := ha cpos pins s1 σ H1 _ I1 q1
  rw [hs] at hA ⊢
  refine Calls.callWith_builtin (by show (false || (backTo cpos (starEach es X.env)).any (·.1)) = false; rw [hplain] <;> rfl) (Calls.evalArgs_plain ?_)
  exact thn hA fun us s2 ⟨vs, H2, I2, r2, q2⟩ => hm pins s2 σ H2 x vs v us Q I2 r1 r2 q2
end
end L2
namespace L2
open PySem PySem.Spec PyProof.Rows
noncomputable def MtM (X : Cx) (id : String) (r : V → List V → Hp → VK → Prop) : Prop :=
  ∀ (pins : List (Addr × Obj)) (s : Shared) (σ : St) (H : Hp) (x : V) (xs : List V) (v : Value) (us : List Value) (Q : VK), Inv X pins σ H s → RelV x v → Vals xs us → r x xs H Q →
    wpAny (model X.prog X.w) X.A (call (.builtin id) (v :: us)) (EP X pins σ Q) X.xe s

theorem Vals.one : ∀ {x : V} {us : List Value}, Vals [x] us → ∃ u, us = [u] ∧ RelV x u
  | _, _, .cons r .nil => ⟨_, rfl, r⟩
theorem Vals.reverse {xs : List V} {us : List Value} (h : Vals xs us) : Vals xs.reverse us.reverse := by
  induction h with
  | nil => exact .nil
  | cons r t ih => rw [List.reverse_cons, List.reverse_cons]; exact Vals.append ih (.cons r .nil)
theorem Vals.rep {xs : List V} {us : List Value} (h : Vals xs us) : ∀ k : Nat, Vals (List.replicate k xs).flatten (List.replicate k us).flatten
  | 0 => .nil
  | k + 1 => by
    rw [List.replicate_succ, List.replicate_succ, List.flatten_cons, List.flatten_cons]
    exact Vals.append h (Vals.rep h k)
theorem foldl_rep (its : List Value) : ∀ (k : Nat) (acc : List Value),
    List.foldl (fun x1 x2 => x1 ++ x2) acc.toArray (List.replicate k its.toArray) = (acc ++ (List.replicate k its).flatten).toArray
  | 0, acc => by simp
  | k + 1, acc => by
    have e : acc.toArray ++ its.toArray = (acc ++ its).toArray := by simp
    have e2 : (acc ++ its) ++ (List.replicate k its).flatten = acc ++ (List.replicate (k + 1) its).flatten := by
      rw [List.replicate_succ, List.flatten_cons, List.append_assoc]
    rw [← e2, ← foldl_rep its k (acc ++ its), ← e, List.replicate_succ, List.foldl_cons]

section
variable {X : Cx} {pins : List (Addr × Obj)} {σ : St} {H : Hp} {s : Shared} {l b : Addr} {xs ys zs : List V}
theorem Inv.lset {its its' : List Value} {n : Nat} {f : Array Value → Array Value} {t' : Nat} (I : Inv X pins σ H s) (hH : H l = some (.lst xs))
    (e : s.heap.get? l = some { cls := .type "list", data := .seq its.toArray n }) (hf : f its.toArray = its'.toArray) (hv : Vals ys its') (hz : ys.length ≤ sizeLine) :
    Inv X pins σ (upd H l (.lst ys)) { s with heap := s.heap.update l (Obj.mapSeq f), toks := t' } := by
  have q := PySem.IsL.update e f
  rw [hf] at q
  refine I.write (x := l) (e := l) (by rw [hH]; exact trivial) (.inl rfl) (fun b' u hb hu => (Heap.get?_update_other s.heap (Obj.mapSeq f) (Ne.symm hb)).trans hu) ⟨_, q⟩ ?_
  exact ⟨hz, its', _, hv, q⟩
theorem Inv.lnew {its : List Value} {t' : Nat} (I : Inv X pins σ H s) (hv : Vals ys its) (hz : ys.length ≤ sizeLine) :
    Inv X pins σ (upd H s.heap.objs.size (.lst ys)) { s with heap := s.heap.push { cls := .type "list", data := .seq its.toArray }, toks := t' } :=
  I.laid (fun _ _ q => Heap.get?_push_of_some _ q) (Nat.le_refl _) ⟨hz, its, 0, hv, Heap.get?_push_size _ rfl⟩
theorem Inv.fresh (I : Inv X pins σ H s) : H s.heap.objs.size = none := I.hok.fresh (Nat.le_refl _)
theorem Inv.lstM (I : Inv X pins σ H s) (hH : H l = some (.lst xs)) : xs.length ≤ sizeLine ∧ ∃ (its : List Value) (n : Nat), Vals xs its ∧ xs.length = its.length ∧ s.heap.get? l = some { cls := .type "list", data := .seq its.toArray n } := by
  obtain ⟨z, its, n, r, e⟩ := I.hok l _ hH
  exact ⟨z, its, n, r, r.length, e⟩

theorem notLongL {n : Nat} (h : n ≤ sizeLine) : Builtin.List.listTooLong n = false := by
  unfold Builtin.List.listTooLong
  exact decide_eq_false (by omega)
end
section
variable {X : Cx}
noncomputable def rAppend : V → List V → Hp → VK → Prop := fun x vs H Q => ∃ l xs y, x = .ref l ∧ vs = [y] ∧ H l = some (.lst xs) ∧ xs.length < sizeLine ∧ Q .non (upd H l (.lst (xs ++ [y])))
theorem mt_append : MtM X "list.append" rAppend := by
  intro pins s σ H x vs v us Q I rx rv h
  obtain ⟨l, xs, y, rfl, rfl, hH, hz, q⟩ := h
  cases rx
  obtain ⟨u, rfl, ru⟩ := rv.one
  obtain ⟨z, its, n, r, hl, e⟩ := I.lstM hH
  refine call_meets F.slot_list_append ⟨_, e, rfl⟩ F.entry_list_append (F.args_list_append_2 _ _) (PySem.list_append l its.toArray n u (by rw [List.size_toArray]; omega)) ⟨e, ?_⟩
  refine ⟨.non, _, I.lset (its' := its ++ [u]) hH e (by simp) (r.append (.cons ru .nil)) ?_, rfl, q⟩
  rw [List.length_append, List.length_singleton]
  omega

noncomputable def rCat : R2 := fun x y H Q => ∃ l b xs zs, x = .ref l ∧ y = .ref b ∧ H l = some (.lst xs) ∧ H b = some (.lst zs) ∧ xs.length + zs.length ≤ sizeLine ∧ ∀ p, H p = none → Q (.ref p) (upd H p (.lst (xs ++ zs)))
theorem op_cat : OpR X (binaryOp .Add) rCat := by
  intro pins s σ H x y v u Q I rx ry h
  obtain ⟨l, b, xs, zs, rfl, rfl, hH, hB, hz, q⟩ := h
  cases rx
  cases ry
  obtain ⟨z, its, n, r, hl, e⟩ := I.lstM hH
  obtain ⟨z2, its2, n2, r2, hl2, e2⟩ := I.lstM hB
  refine PySem.P.add_list e e2 ?_ (by rw [List.size_toArray, List.size_toArray]; omega)
  have ea : its.toArray ++ its2.toArray = (its ++ its2).toArray := by simp
  rw [ea]
  exact ⟨.ref _, _, I.lnew (t' := s.toks) (r.append r2) (by rw [List.length_append]; omega), rfl, q _ I.fresh⟩
noncomputable def rRep : R2 := fun x y H Q => ∃ l k xs, x = .ref l ∧ y = .int k ∧ H l = some (.lst xs) ∧ -(2 ^ 63) ≤ k ∧ k < 2 ^ 63 ∧ xs.length * k.toNat ≤ sizeLine ∧
  ∀ p, H p = none → Q (.ref p) (upd H p (.lst (List.replicate k.toNat xs).flatten))
theorem len_rep {α : Type} (xs : List α) (k : Nat) : (List.replicate k xs).flatten.length = k * xs.length := by
  induction k with
  | zero => simp
  | succ k ih => rw [List.replicate_succ, List.flatten_cons, List.length_append, ih, Nat.succ_mul, Nat.add_comm]
theorem op_rep : OpR X (binaryOp .Mult) rRep := by
  intro pins s σ H x y v u Q I rx ry h
  obtain ⟨l, k, xs, rfl, rfl, hH, h1, h2, hz, q⟩ := h
  cases rx
  obtain ⟨t, rfl⟩ := ry
  obtain ⟨z, its, n, r, hl, e⟩ := I.lstM hH
  have hlen : its.toArray.size * k.toNat ≤ sizeLine := by rw [List.size_toArray, ← hl]; exact hz
  have hcap : ¬ its.toArray.size * k.toNat > (2 ^ 63 - 1) / 8 := by
    have : (sizeLine : Nat) ≤ (2 ^ 63 - 1) / 8 := by decide
    omega
  have hfit : ¬ (!Builtin.List.listFitsIndex k) = true := by
    rw [fitsIndex_both h1 h2]
    exact Bool.false_ne_true
  have hlong : ¬ Builtin.List.listTooLong (its.toArray.size * k.toNat) = true := by
    rw [notLongL hlen]
    exact Bool.false_ne_true
  have hnew : List.foldl (fun x1 x2 => x1 ++ x2) #[] (List.replicate (if its.toArray.isEmpty = true then 0 else k.toNat) its.toArray) = (List.replicate k.toNat its).flatten.toArray := by
    have f0 : ∀ m : Nat, List.foldl (fun x1 x2 => x1 ++ x2) #[] (List.replicate m its.toArray) = (List.replicate m its).flatten.toArray := fun m => by
      have := foldl_rep its m []
      rw [List.nil_append] at this
      exact this
    rw [f0]
    cases its with
    | nil => simp
    | cons a r' => rw [if_neg (by simp)]
  refine wpAny_binaryOp_repeat_ref (T := "list") (U := "int") (by decide) ⟨_, e, rfl⟩ (fun s' => typeIs_int s' k t) noFill_list_mul F.fills_int_mul F.slot_int_rmul repeat_list F.slot_int_index.lookup
    (call_meets F.slot_int_rmul (typeIs_int s k t) F.entry_int_rmul (F.args_int_rmul_2 _ _) (int___rmul___int_list k t l its.toArray n)
      ⟨e, rfl, ⟨_, e, rfl⟩, call_meets F.slot_list_mul ⟨_, e, rfl⟩ F.entry_list_mul (F.args_list_mul_2 _ _) (AutoListH.list___mul___list_int_3 l its.toArray n k t hfit hcap hlong) ⟨e, ?_⟩⟩)
  rw [hnew]
  exact ⟨.ref _, _, I.lnew (t' := s.toks) (r.rep k.toNat) (by rw [len_rep, Nat.mul_comm]; exact hz), rfl, q _ I.fresh⟩

end
section
variable {prog : Program} {w : World} {A : Around} {E : Value → Shared → Prop} {s : Shared}
end
section
variable {X : Cx}
end
end L2
namespace L2
open PySem PySem.Spec PyProof.Rows
section
variable {κ : Type} [DecidableEq κ]
noncomputable def valV (kvs : List (κ × V)) (k : κ) : Option V := (kvs.find? fun kv => decide (kv.1 = k)).map (·.2)
theorem valV_nil {k : κ} : valV ([] : List (κ × V)) k = none := rfl
theorem valV_pos {p : κ × V} {r : List (κ × V)} {k : κ} (e : p.1 = k) : valV (p :: r) k = some p.2 := by simp [valV, List.find?_cons, e]
theorem valV_neg {p : κ × V} {r : List (κ × V)} {k : κ} (e : ¬ p.1 = k) : valV (p :: r) k = valV r k := by simp [valV, List.find?_cons, e]
theorem RelO.isSome_eq {o : Option V} {u : Option Value} (r : RelO o u) : o.isSome = u.isSome := by
  cases o with
  | none => cases u with
    | none => rfl
    | some _ => exact (show False from r).elim
  | some _ => cases u with
    | none => exact (show False from r).elim
    | some _ => rfl
theorem KV.val {kvs : List (κ × V)} {vs : List (κ × Value)} (r : KV kvs vs) (k : κ) : RelO (valV kvs k) (valueAt vs k) := by
  unfold KV at r
  induction r with
  | nil => exact True.intro
  | @cons p q ps qs h t ih =>
    obtain ⟨h1, h2⟩ := h
    by_cases e : p.1 = k
    · have e' : q.1 = k := h1.symm.trans e
      have b : valueAt (q :: qs) k = some q.2 := by simp [valueAt, List.find?_cons, e']
      rw [valV_pos e, b]; exact h2
    · have e' : ¬ q.1 = k := fun z => e (h1.trans z)
      have b : valueAt (q :: qs) k = valueAt qs k := by simp [valueAt, List.find?_cons, e']
      rw [valV_neg e, b]; exact ih
end
theorem kV_is {P : Program} {w : World} {k : Key} {u : Value} (r : RelV (kV k) u) : (mixKind P w).is k u = true := by
  cases k with
  | inl i => obtain ⟨t, e⟩ := (show ∃ t, u = Value.int i t from r); subst e; exact mixKind_int P w i t
  | inr x => obtain ⟨t, e⟩ := (show ∃ t, u = Value.str x t from r); subst e; exact mixKind_str P w x t
theorem items_are {P : Program} {w : World} : ∀ {ks : List Key} {us : List Value}, Vals (ks.map kV) us → ItemsAre (mixKind P w) ks us
  | [], _, r => by rw [List.map_nil] at r; cases r; exact .nil
  | k :: ks, _, r => by
    rw [List.map_cons] at r
    cases r with
    | cons h t => exact .cons (kV_is h) (items_are t)

noncomputable abbrev KT (H : Hp) : List (List Key × V) → List (List Key × Addr × Value) → Prop := Paired fun p q => p.1 = q.1 ∧ H q.2.1 = some (.tup (p.1.map kV)) ∧ RelV p.2 q.2.2
theorem KT.val {H : Hp} {kvs : List (List Key × V)} {xs : List (List Key × Addr × Value)} (r : KT H kvs xs) (k : List Key) : RelO (valV kvs k) ((atKey xs k).map (·.2)) := by
  induction r with
  | nil => exact True.intro
  | @cons p q ps qs h t ih =>
    obtain ⟨h1, _, h2⟩ := h
    by_cases e : p.1 = k
    · have e' : q.1 = k := h1.symm.trans e
      have b : atKey (q :: qs) k = some q.2 := by simp [atKey, List.find?_cons, e']
      rw [valV_pos e, b]; exact h2
    · have e' : ¬ q.1 = k := fun z => e (h1.trans z)
      have b : atKey (q :: qs) k = atKey qs k := by simp [atKey, List.find?_cons, e']
      rw [valV_neg e, b]; exact ih
section
variable {P : Program} {w : World} {H : Hp} {h : Heap} {a : Addr}
theorem rd_of {u : HO} (ok : HOk P w H h) (e : Rd H a u) : ObjOk P w H h a u := e.ok ok
theorem dk_rd {kvs : List (Key × V)} (ok : HOk P w H h) (e : Rd H a (.dK kvs)) : kvs.length ≤ sizeLine ∧ (a == sysModules) = false ∧ ∃ vs, KV kvs vs ∧ h.DictOf (mixKind P w) a vs :=
  show ObjOk P w H h a (.dK kvs) from rd_of ok e
theorem key_of {ks : List Key} (ok : HOk P w H h) (e : H a = some (.tup (ks.map kV))) : (tupleKind (mixKind P w)).is h ks a := by
  obtain ⟨_, its, r, o, h1, h2, n, h3⟩ := (show ObjOk P w H h a (.tup (ks.map kV)) from ok a _ e)
  exact ⟨o, its.toArray, n, h1, h2, h3, by simpa using items_are r⟩
theorem dt_rd {kvs : List (List Key × V)} (ok : HOk P w H h) (e : Rd H a (.dT kvs)) : kvs.length ≤ sizeLine ∧ (a == sysModules) = false ∧
    ∃ xs, KT H kvs xs ∧ h.DictOfH (tupleKind (mixKind P w)) a xs := by
  obtain ⟨z, y, xs, r, o, es, ep, h1, h2, h3, h4, h5⟩ := (show ObjOk P w H h a (.dT kvs) from rd_of ok e)
  refine ⟨z, y, xs, r, o, es, ep, h1, h2, h3, h4, fun x hx => ?_, h5⟩
  have all : ∀ {l : List (List Key × V)} {m : List (List Key × Addr × Value)}, KT H l m → ∀ x ∈ m, (tupleKind (mixKind P w)).is h x.1 x.2.1 := by
    intro l m q
    induction q with
    | nil => intro x hx; exact nomatch hx
    | @cons p q ps qs hq t ih =>
      intro x hx
      rcases List.mem_cons.mp hx with e | hx
      · subst e
        exact key_of ok (by rw [← hq.1]; exact hq.2.1)
      · exact ih x hx
  exact all r x hx
end
noncomputable def DGet (H : Hp) (a : Addr) (y : V) (r : Option V) : Prop :=
  (∃ kvs k, Rd H a (.dK kvs) ∧ y = kV k ∧ r = valV kvs k) ∨ ∃ kvs k b, Rd H a (.dT kvs) ∧ y = .ref b ∧ H b = some (.tup (k.map kV)) ∧ r = valV kvs k
theorem DGet.k {H : Hp} {a : Addr} {kvs : List (Key × V)} {k : Key} (e : H a = some (.dK kvs)) : DGet H a (kV k) (valV kvs k) := .inl ⟨kvs, k, .inl e, rfl, rfl⟩
theorem DGet.t {H : Hp} {a b : Addr} {kvs : List (List Key × V)} {k : List Key} (e : H a = some (.dT kvs)) (eb : H b = some (.tup (k.map kV))) : DGet H a (.ref b) (valV kvs k) := .inr ⟨kvs, k, b, .inl e, rfl, eb, rfl⟩
section
variable {X : Cx} {pins : List (Addr × Obj)} {σ : St} {H : Hp} {s : Shared} {a : Addr} {y v : V} {u r : Value} {o : Option V} {A : Around} {E : Value → Shared → Prop}
theorem d_getItem {Q : Value → Shared → Prop} (hu : A.units + 1 < cLine) (I : Inv X pins σ H s) (g : DGet H a y (some v)) (ry : RelV y u) (h : ∀ w' s', Inv X pins σ H s' → RelV v w' → Q w' s') :
    wpAny (model X.prog X.w) A (getItem (.ref a) u) Q E s := by
  rcases g with ⟨kvs, k, e, ey, l⟩ | ⟨kvs, k, b, e, ey, eb, l⟩
  · subst ey
    obtain ⟨z, hd, vs, rel, dd⟩ := dk_rd I.hok e
    obtain ⟨w', hw, rw'⟩ := RelO.some_of (v := v) (o := valueAt vs k) (by rw [l]; exact rel.val k)
    exact wpAny_getItem_of (kV_is ry) dd.mapOf hw (h w' _ (I.tok _) rw')
  · subst ey
    cases (show u = Value.ref b from ry)
    obtain ⟨z, hd, xs, rel, dd⟩ := dt_rd I.hok e
    obtain ⟨w', hw, rw'⟩ := RelO.some_of (v := v) (o := (atKey xs k).map (·.2)) (by rw [l]; exact rel.val k)
    obtain ⟨p, hp, hp2⟩ := Option.map_eq_some_iff.mp hw
    refine wpAny_getItem_heap (tupleKind_room_in1 hu) (key_of I.hok eb) dd hp ?_
    rw [hp2]
    exact h w' _ (I.tok _) rw'
theorem d_in {Q : Value → Shared → Prop} (hu : A.units + 1 < cLine) (I : Inv X pins σ H s) (g : DGet H a y o) (ry : RelV y u) (h : ∀ s', Inv X pins σ H s' → Q (.bool o.isSome) s') :
    wpAny (model X.prog X.w) A (compareOp .In u (.ref a)) Q E s := by
  rcases g with ⟨kvs, k, e, ey, l⟩ | ⟨kvs, k, b, e, ey, eb, l⟩
  · subst ey
    obtain ⟨z, hd, vs, rel, dd⟩ := dk_rd I.hok e
    refine wpAny_in_of (kV_is ry) hd dd.mapOf ?_
    rw [← (rel.val k).isSome_eq, ← l]
    exact h _ (I.tok _)
  · subst ey
    cases (show u = Value.ref b from ry)
    obtain ⟨z, hd, xs, rel, dd⟩ := dt_rd I.hok e
    refine wpAny_in_heap (tupleKind_room_in1 hu) (key_of I.hok eb) hd dd ?_
    have q := (rel.val k).isSome_eq
    rw [Option.isSome_map] at q
    rw [← q, ← l]
    exact h _ (I.tok _)
theorem d_notIn {Q : Value → Shared → Prop} (hu : A.units + 1 < cLine) (I : Inv X pins σ H s) (g : DGet H a y o) (ry : RelV y u) (h : ∀ s', Inv X pins σ H s' → Q (.bool (!o.isSome)) s') :
    wpAny (model X.prog X.w) A (compareOp .NotIn u (.ref a)) Q E s := by
  rcases g with ⟨kvs, k, e, ey, l⟩ | ⟨kvs, k, b, e, ey, eb, l⟩
  · subst ey
    obtain ⟨z, hd, vs, rel, dd⟩ := dk_rd I.hok e
    refine wpAny_notIn_of (kV_is ry) hd dd.mapOf ?_
    rw [← (rel.val k).isSome_eq, ← l]
    exact h _ (I.tok _)
  · subst ey
    cases (show u = Value.ref b from ry)
    obtain ⟨z, hd, xs, rel, dd⟩ := dt_rd I.hok e
    refine wpAny_notIn_heap (tupleKind_room_in1 hu) (key_of I.hok eb) hd dd ?_
    have q := (rel.val k).isSome_eq
    rw [Option.isSome_map] at q
    rw [← q, ← l]
    exact h _ (I.tok _)
end
section
variable {X : Cx} {pins : List (Addr × Obj)} {σ : St} {H : Hp} {s : Shared} {a : Addr} {kvs : List (Key × V)} {k : Key} {u : Value} {A : Around} {E : Value → Shared → Prop}
end
theorem dict_typeIs {X : Cx} {pins : List (Addr × Obj)} {σ : St} {H : Hp} {s : Shared} {a : Addr} {y : V} {o : Option V} (I : Inv X pins σ H s) (g : DGet H a y o) : s.TypeIs (.ref a) "dict" := by
  rcases g with ⟨kvs, k, e, _, _⟩ | ⟨kvs, k, b, e, _, _, _⟩
  · obtain ⟨_, _, vs, _, dd⟩ := dk_rd I.hok e
    exact dd.typeIs
  · obtain ⟨_, _, xs, _, dd⟩ := dt_rd I.hok e
    exact dd.typeIs
section
variable {X : Cx} {o i e value : Expr} {pos pos' tpos : Pos} {td ty tv : TE}
end
section
variable {X : Cx} {pos : Pos}
end
section
variable {X : Cx} {pins : List (Addr × Obj)} {σ : St} {H : Hp} {s : Shared} {a : Addr} {y d : V} {u r : Value} {o : Option V} {A : Around} {E : Value → Shared → Prop}
end
section
variable {X : Cx} {o e f : Expr} {apos cpos : Pos} {td ty tx : TE}
end
section
variable {X : Cx} {pins : List (Addr × Obj)} {σ : St} {H : Hp} {s : Shared} {a : Addr} {kvs : List (Key × V)} {A : Around} {E : Value → Shared → Prop}
end
section
variable {X : Cx} {pins : List (Addr × Obj)} {σ : St} {H : Hp} {s : Shared} {a : Addr} {y : V} {u : Value} {A : Around} {E : Value → Shared → Prop}
end
end L2
namespace Att
open PySem PySem.W PySem.Calls PyProof.Rows
theorem ints_of_wellAll {P : Params} {h : Heap} : ∀ (ns : List Int) (vs : List Value), WellAll P h vs (ns.map WData.int) → IntsAre vs ns := by
  intro ns
  induction ns with
  | nil =>
    intro vs w
    rw [List.map_nil] at w
    cases w
    exact .nil
  | cons n ns ih =>
    intro vs w
    rw [List.map_cons] at w
    cases w with
    | cons a b =>
      cases a
      exact .cons _ _ (ih _ b)

theorem script_of {l : OpenLaw} {n : Nat} (hn : l.most = some n) {P : Params} {h : Heap} {args : List WData} {vals : List Value}
    (hpre : l.row.toRowW.claim.pre args = true) (hwl : WellAll P h vals args) :
    ∃ a vs ns, vals = [Value.ref a] ∧ args = [WData.list (ns.map WData.int)] ∧ h.get? a = some { cls := .type "list", data := .seq vs.toArray } ∧ IntsAre vs ns ∧ ns.length ≤ n := by
  have hsh : WShape.hasAll [] args [.list .int] = true := (pre_splitW hpre).1
  have hc : l.pre.holds [] { args := args } = true := (pre_splitW hpre).2
  obtain ⟨d, r, rfl, h1, h2⟩ := hasAllW_cons hsh
  obtain rfl := hasAllW_nil h2
  obtain ⟨xs, rfl, h3⟩ := hasW_list h1
  obtain ⟨ns, rfl⟩ := items_int h3
  have hlen : ns.length ≤ n := by
    unfold OpenLaw.pre at hc
    have h4 : (WTm.not (.lt (.lit (.int (n : Int))) (.len (.arg 0)))).holds [] { args := [.list (ns.map .int)] } = true := by
      have h4 := (holds_andW hc).1
      rw [hn] at h4
      exact h4
    have h5 := condW_of h4 (w_not (w_lt w_lit (w_len_list (w_arg rfl))))
    rw [List.length_map] at h5
    refine Nat.le_of_not_lt fun q => ?_
    have q' : (n : Int) < ((ns.length : Nat) : Int) := by omega
    first
      | (rw [decide_eq_true q'] at h5; exact absurd h5 (by decide))
      | (simp at h5; omega)
  cases hwl with
  | cons w1 w2 =>
    cases w2
    cases w1 with
    | list ho hall => exact ⟨_, _, ns, rfl, rfl, ho, ints_of_wellAll ns _ hall, hlen⟩

theorem post_true (l : OpenLaw) (args : List WData) : l.row.toRowW.claim.post args (.bool true) args = true :=
  postW_of (r := l.row.toRowW) (X := (true == true))
    (show WShape.has [] (.bool true) .bool = true by first | rfl | decide | simp [WShape.has, WShape.arms, WShape.armsAll])
    (show (WTm.eq .res (.lit (.bool true))).value [] { args := args, res := some (.bool true), after := args } = some (.bool (true == true)) from w_eq_bool (w_res rfl) w_lit) rfl

theorem attach_call {l : OpenLaw} {n : Nat} {q : Program} {loose : List Str} {XP : (Str → Option Value) → Heap → Prop} {YP : World → Heap → Prop} {d : DefRec}
    (hn : l.most = some n) (hdf : d.params.defaults = [])
    (call : ∀ (w : World) (s₀ s₁ : Shared) (mg mb : Str → Option Value) (fa : Addr) (o : Obj) (pm cd doc : Value) (a : Addr) (vs : List Value) (ns : List Int),
      Ground q loose [] XP w s₀ mg mb s₁.heap → YP w s₁.heap →
      s₁.heap.get? fa = some o → o.data = .func (docDef d.name d.params d.body d.scope pm cd doc) → s₁.heap.CodeRec cd d.name → mg d.name = some (.ref fa) →
      s₁.heap.get? a = some { cls := .type "list", data := .seq vs.toArray } → IntsAre vs ns → ns.length ≤ n → s₁.gens = #[] →
      codeAny (model l.prog w) callerA (.call (.ref fa) ⟨[.ref a], []⟩) (fun r s' => r = .ok (.ret (.bool true)) ∧ OldK s₁.heap s'.heap ∧ s'.os = s₁.os ∧ AllBare s'.gens) s₁) :
    WalkO q loose XP YP l.row.toRowW d [] (fun f vs => PySem.call f vs) := by
  intro w s₀ s₁ mg mb G Y fa o pm cd doc dV kV ho hd hcd hD hmg hg args vals as hpre hlay hrd hwl hlo
  obtain rfl : dV = .none := Dflts.none hD hdf
  obtain rfl : kV = .none := Dflts.noKw hD
  obtain ⟨a, vs, ns, rfl, rfl, hobj, hints, hlen⟩ := script_of hn hpre hwl
  refine enter_call (codeAny_mono (call w s₀ s₁ mg mb fa o pm cd doc a vs ns G Y ho (fd_plain hd) hcd hmg hobj hints hlen hg) fun r s' hq => ?_)
  obtain ⟨rfl, h2, h3, h4⟩ := hq
  exact ⟨.inl ⟨.bool true, .bool true, [], rfl, fun _ => rfl, .bool true, post_true l _, fun _ => ⟨List.Pairwise.nil, fun _ hm => (nomatch hm)⟩⟩, h2, h3, h4⟩

section
variable {prog : Program} {w : World} {A : Around} {E : Value → Shared → Prop} {s : Shared} {K : Frag}
end
end Att
namespace L2
open PySem PySem.Spec PyProof.Rows
theorem vals_ints : ∀ {vs : List Value} {ns : List Int}, IntsAre vs ns → Vals (ns.map V.int) vs
  | _, _, .nil => .nil
  | _, _, .cons n t h => .cons ⟨t, rfl⟩ (vals_ints h)

noncomputable def Only (H : Hp) : Prop := ∀ b, H b = none ∨ ∃ o xs, H b = some (.frz o (.lst xs))

theorem law_call {P : Program} {w : World} {K : PySem.W.Frag} {mg mb : Str → Option Value} {CX : CXT} {k : Nat} {fa a : Addr} {fd : FuncData} {x : Str} {sp : Sp} {s₁ : Shared} {vs : List Value} {ns : List Int}
    (KX : K.In s₁.heap) (hns : s₁.heap.Ns mainGlobals mg) (hb : s₁.heap.Ns builtinsNs mb) (hbb : ∀ x : Str, x ≠ "__name__" → mb x = bootBuiltins x) (hlim : s₁.heap.NoLimit) (hg : s₁.gens = #[])
    (ha : s₁.heap.get? a = some { cls := .type "list", data := .seq vs.toArray }) (hi : IntsAre vs ns) (hl : ns.length ≤ sizeLine) (hr : Room k callerA)
    (F : ∀ base : Heap, K.In base → base.Ns mainGlobals mg → FnOk P w K mg base CX k fa fd [x] sp) (hbind : ∀ (s : Shared) (u : Value), BindsTo s fd ⟨[u], []⟩ [(x, u)])
    (hsp : ∀ H : Hp, Only H → SqL K H a (ns.map V.int) → sp [.ref a] H (fun v _ => v = .bl true) fun _ _ _ => False)
    (hCX : ∀ H e s', CX [] H s₁ (fun _ _ _ => False) e s' → False) :
    codeAny (model P w) callerA (.call (.ref fa) ⟨[.ref a], []⟩) (fun r s' => r = .ok (.ret (.bool true)) ∧ OldK s₁.heap s'.heap ∧ s'.os = s₁.os ∧ AllBare s'.gens) s₁ := by
  have rv := vals_ints hi
  have lenV := hi.length
  -- from an abstract heap in which nothing but the script may be tracked
  have core : ∀ H : Hp, Only H → SqL K H a (ns.map V.int) → HOk P w H s₁.heap → (∀ b, H b ≠ none → b = a) → (H a ≠ none → K.lookup a = none) →
      codeAny (model P w) callerA (.call (.ref fa) ⟨[.ref a], []⟩) (fun r s' => r = .ok (.ret (.bool true)) ∧ OldK s₁.heap s'.heap ∧ s'.os = s₁.os ∧ AllBare s'.gens) s₁ := by
    intro H hO hS hok hA hK
    have base_of : ∀ {b : Addr} {o : Obj}, s₁.heap.get? b = some o → H b = none → (hidT s₁.heap H).get? b = some o := fun e n => hidT_get e n
    have noA : ∀ {b : Addr} {o : Obj} {es : Array DictEntry} {ep : Nat}, s₁.heap.get? b = some o → o.data = .dict es ep → H b = none := fun {b o es ep} e d => by
      cases q : H b with
      | none => rfl
      | some u =>
        have e' : b = a := hA b (by rw [q]; simp)
        subst e'
        rw [ha] at e; cases e
        have d' : Data.seq vs.toArray _ = Data.dict es ep := d
        cases d'
    have nsK : ∀ {b : Addr} {m : Str → Option Value}, s₁.heap.Ns b m → (hidT s₁.heap H).Ns b m := fun {b m} ⟨o, es, ep, e, d, r⟩ => ⟨o, es, ep, base_of e (noA e d), d, r⟩
    have hKb : K.In (hidT s₁.heap H) := fun b o e => base_of (KX b o e) (by
      cases q : H b with
      | none => rfl
      | some u =>
        have e' : b = a := hA b (by rw [q]; simp)
        subst e'
        rw [hK (by rw [q]; simp)] at e; cases e)
    have hM : Mod K mg (hidT s₁.heap H) := ⟨hKb, nsK hns, ⟨mb, nsK hb, hbb⟩, let ⟨mc, h1, h2⟩ := hlim; ⟨mc, nsK h1, h2⟩⟩
    have e0 : Env0 P w K mg (hidT s₁.heap H) callerA [] s₁ H := ⟨rfl, hM, fun b o e => of_hidT e, Nat.le_of_eq (hidT_size _ _), trivial, fun b hb => absurd (show b ∈ ([] : List Addr) from hb) (by simp), hok, .of_eq hg⟩
    refine codeAny_mono ((F _ hKb (nsK hns)).run callerA [] s₁ H ⟨[.ref a], []⟩ [.ref a] [.ref a] _ _ hr e0 (hbind s₁ (.ref a)) (.cons rfl .nil) (hsp H hO hS)) fun r s' h => ?_
    cases r with
    | error e => exact (hCX H e s' h).elim
    | ok fl =>
      cases fl with
      | next => exact False.elim h
      | brk => exact False.elim h
      | cont => exact False.elim h
      | ret u =>
        obtain ⟨v, H', os, bare, un, hok', r', q⟩ := h
        have q' : v = .bl true := q
        subst q'
        obtain rfl : u = Value.bool true := r'
        refine ⟨rfl, OldK.of_keep fun b o e => ?_, os, bare⟩
        cases q : H b with
        | none => exact un.keep b o e q (by intro z; exact absurd (show b ∈ ([] : List Addr) from z) (by simp)) (by simp)
        | some u =>
          rcases hO b with z | ⟨ob, xs, z⟩
          · rw [q] at z; cases z
          · have z2 := un.frzs b ob _ z
            obtain ⟨e1, _⟩ := hok b _ z
            obtain ⟨e2, _⟩ := hok' b _ z2
            rw [e] at e1; cases e1
            exact e2
  cases hk : K.lookup a with
  | some o =>
    -- the script is one of the module's own objects
    have e := KX a o hk
    rw [ha] at e
    cases e
    refine core (fun _ => none) (fun _ => .inl rfl) (.inr ⟨_, vs.toArray, _, hk, rfl, rfl, rfl, by rw [List.size_toArray, lenV]; exact hl, by simpa using rv⟩) (fun b u z => by have z' : (none : Option HO) = some u := z; cases z') (fun b z => absurd rfl z) fun z => absurd rfl z
  | none =>
    refine core (fun b => if b = a then some (.frz { cls := .type "list", data := .seq vs.toArray } (.lst (ns.map V.int))) else none) (fun b => ?_) (.inl (.inr ⟨{ cls := .type "list", data := .seq vs.toArray }, if_pos rfl⟩)) (fun b u z => ?_) (fun b z => ?_) fun _ => hk
    · by_cases hb : b = a
      · exact .inr ⟨_, _, if_pos hb⟩
      · exact .inl (if_neg hb)
    · by_cases hb : b = a
      · have z' := (if_pos hb).symm.trans z
        cases z'
        subst hb
        exact ⟨ha, by rw [List.length_map]; exact hl, vs, _, rv, ha⟩
      · have z' := (if_neg hb).symm.trans z
        cases z'
    · by_cases hb : b = a
      · exact hb
      · exact absurd (if_neg hb) z
end L2
namespace L2
open PySem PySem.Spec PyProof.Rows
theorem walk_of {l : PySem.W.OpenLaw} {n k : Nat} {q : Program} {loose : List Str} {XP : (Str → Option Value) → Heap → Prop} {YP : World → Heap → Prop} {d : DefRec} {K : Params → PySem.W.Frag} {CX : World → CXT} {sp : World → Sp} {x : Str}
    (hn : l.most = some n) (hn2 : n ≤ sizeLine) (hdf : d.params.defaults = []) (hr : Room k callerA)
    (hY : ∀ (w : World) (h : Heap), YP w h → (K w.params).In h)
    (F : ∀ (w : World) (mg : Str → Option Value) (fa : Addr) (h : Heap), (K w.params).In h → h.Ns mainGlobals mg → mg d.name = some (.ref fa) →
      ∃ fd : FuncData, (∀ (s : Shared) (u : Value), BindsTo s fd ⟨[u], []⟩ [(x, u)]) ∧
        ∀ base : Heap, (K w.params).In base → base.Ns mainGlobals mg → FnOk l.prog w (K w.params) mg base (CX w) k fa fd [x] (sp w))
    (hsp : ∀ (w : World) (H : Hp) (a : Addr) (ns : List Int), ns.length ≤ n → Only H → SqL (K w.params) H a (ns.map V.int) → sp w [.ref a] H (fun v _ => v = .bl true) fun _ _ _ => False)
    (hCX : ∀ (w : World) (H : Hp) (s : Shared) (e : Value) (s' : Shared), CX w [] H s (fun _ _ _ => False) e s' → False) :
    PySem.W.WalkO q loose XP YP l.row.toRowW d [] (fun f vs => PySem.call f vs) := by
  refine Att.attach_call hn hdf fun w s₀ s₁ mg mb fa o pm cd doc a vs ns G Y ho hd hcd hmg hobj hints hlen hg => ?_
  have KX := hY w _ Y
  obtain ⟨fd, hb, hF⟩ := F w mg fa _ KX G.T.g hmg
  exact law_call KX G.T.g G.T.b G.T.builtins G.T.nolimit hg hobj hints (Nat.le_trans hlen hn2) hr hF hb (fun H hO hS => hsp w H a ns hlen hO hS) fun H e s' => hCX w H s₁ e s'
theorem walk_ofK {l : PySem.W.OpenLaw} {n k : Nat} {q : Program} {loose : List Str} {XP : (Str → Option Value) → Heap → Prop} {YP : World → Heap → Prop} {d : DefRec} {K : Params → PySem.W.Frag} {CX : CXT} {sp : PySem.W.Frag → Sp} {x : Str}
    (hn : l.most = some n) (hn2 : n ≤ sizeLine) (hdf : d.params.defaults = []) (hr : Room k callerA)
    (hY : ∀ (w : World) (h : Heap), YP w h → (K w.params).In h)
    (F : ∀ (w : World) (mg : Str → Option Value) (fa : Addr) (h : Heap), (K w.params).In h → h.Ns mainGlobals mg → mg d.name = some (.ref fa) →
      ∃ fd : FuncData, (∀ (s : Shared) (u : Value), BindsTo s fd ⟨[u], []⟩ [(x, u)]) ∧
        ∀ base : Heap, (K w.params).In base → base.Ns mainGlobals mg → FnOk l.prog w (K w.params) mg base CX k fa fd [x] (sp (K w.params)))
    (hsp : ∀ (K : PySem.W.Frag) (H : Hp) (a : Addr) (ns : List Int), ns.length ≤ n → Only H → SqL K H a (ns.map V.int) → sp K [.ref a] H (fun v _ => v = .bl true) fun _ _ _ => False)
    (hCX : ∀ (H : Hp) (s : Shared) (e : Value) (s' : Shared), CX [] H s (fun _ _ _ => False) e s' → False) :
    PySem.W.WalkO q loose XP YP l.row.toRowW d [] (fun f vs => PySem.call f vs) :=
  walk_of (K := K) (CX := fun _ => CX) (sp := fun w => sp (K w.params)) hn hn2 hdf hr hY F (fun w H a ns h1 h2 h3 => hsp (K w.params) H a ns h1 h2 h3) fun _ H s e s' => hCX H s e s'
end L2
namespace L2
open PySem PySem.Spec PyProof.Rows
noncomputable def inClass (s : Stmt) (j : Nat) : Stmt := match s with
  | .ClassDef _ _ _ body _ _ _ _ _ _ _ => body.getD j (.Pass ⟨0, 0, 0, 0⟩)
  | _ => .Pass ⟨0, 0, 0, 0⟩
noncomputable def defArgs (s : Stmt) : Arguments := match s with
  | .FunctionDef _ a _ _ _ _ _ _ _ _ => a
  | _ => { posonlyargs := [], args := [], vararg := none, kwonlyargs := [], kw_defaults := [], kwarg := none, defaults := [] }
noncomputable def defBody (s : Stmt) : List Stmt := match s with
  | .FunctionDef _ _ b _ _ _ _ _ _ _ => b
  | _ => []
noncomputable def defScope (s : Stmt) : Scope := match s with
  | .FunctionDef _ _ _ _ _ _ sc _ _ _ => sc
  | _ => { kind := .function, names := [], isGenerator := false, isCoroutine := false }

noncomputable abbrev CX0 : CXT := fun _ _ _ _ _ _ => False
noncomputable abbrev E0 : XK := fun _ _ _ => False
theorem pass0 {X : Cx} : Passes CX0 X E0 := fun _ _ _ _ _ _ _ h => h.elim

structure Fun (K : PySem.W.Frag) (x qual : Str) (st : Stmt) (f : Addr) (fd : FuncData) : Prop where
  ex : ∃ (oc : Value) (od : Option Addr) (kV doc pm : Value) (an : Option Addr) (cdv ct : Value) (osl : Array (Option Value)),
    fd = PySem.W.fnOf x qual (defArgs st) (defBody st) (defScope st) .none kV doc pm an cdv ct ∧ K.lookup f = some ⟨oc, od, .func fd, osl⟩ ∧ PySem.W.codeIn K cdv qual = true
  kp : PySem.W.keepIn K (.ref f) = true
section
variable {P : Program} {w : World} {K : PySem.W.Frag} {mg : Str → Option Value} {base : Heap}
theorem Fun.ok {x qual : Str} {st : Stmt} {f : Addr} {fd : FuncData} {N ps : List Str} {k : Nat} {sp : Sp} (F : Fun K x qual st f fd) (S : FnScope N ps (defScope st)) (len : ∀ vs H Q E, sp vs H Q E → vs.length = ps.length)
    (hbody : ∀ (cdv : Value) (A : Around) (outer : List Env) (s : Shared) (H : Hp) (vs : List V) (Q : VK) (E : XK), Room k (A.deeper (envOfC qual (defScope st) s.heap.objs.size f cdv)) → sp vs H Q E →
      ∃ t, PSs (cxOf CX0 P w K mg base N qual (defScope st) f cdv A outer s H E).nox (defBody st) t ∧ t { nx := fun _ H' => Q .non H', rt := Q } (start N vs) H) : FnOk P w K mg base CX0 (k + 1) f fd ps sp := by
  obtain ⟨oc, od, kV, doc, pm, an, cdv, ct, osl, rfl, lk, hcd⟩ := F.ex
  refine fn_of lk hcd S len fun A outer s H vs Q E hr hsp => ?_
  obtain ⟨t, h, q⟩ := hbody cdv A outer s H vs Q E hr hsp
  exact ⟨t, h.nox, q⟩
theorem Fun.binds {x qual : Str} {st : Stmt} {f : Addr} {fd : FuncData} {ps : List Str} (F : Fun K x qual st f fd)
    (h : ∀ (kV doc pm : Value) (an : Option Addr) (cdv ct : Value) (us : List Value), us.length = ps.length → bindArgs (PySem.W.fnOf x qual (defArgs st) (defBody st) (defScope st) .none kV doc pm an cdv ct) ⟨us, []⟩ = pure (ps.zip us)) : Binds K fd ps [] := by
  obtain ⟨oc, od, kV, doc, pm, an, cdv, ct, osl, rfl, lk, hcd⟩ := F.ex
  exact .all (h kV doc pm an cdv ct)
theorem fun_mk {x qual : Str} {st : Stmt} {f : Addr} {oc : Value} {od an : Option Addr} {osl : Array (Option Value)} {kV doc pm cdv ct : Value} (l : K.lookup f = some ⟨oc, od, .func (PySem.W.fnOf x qual (defArgs st) (defBody st) (defScope st) .none kV doc pm an cdv ct), osl⟩)
    (c : PySem.W.codeIn K cdv qual = true) (k : PySem.W.keepIn K (.ref f) = true) : Fun K x qual st f (PySem.W.fnOf x qual (defArgs st) (defBody st) (defScope st) .none kV doc pm an cdv ct) := ⟨⟨oc, od, kV, doc, pm, an, cdv, ct, osl, rfl, l, c⟩, k⟩
end
section
variable {X : Cx}
end
noncomputable def Same (H H' : Hp) : Prop := ∀ b o, H b = some o → H' b = some o
theorem Same.refl (H : Hp) : Same H H := fun _ _ h => h
theorem Same.trans {H H1 H2 : Hp} (a : Same H H1) (b : Same H1 H2) : Same H H2 := fun c o h => b c o (a c o h)
theorem Same.free {H H' : Hp} (e : Same H H') {l : Addr} (h : H' l = Option.none) : H l = Option.none := by
  cases q : H l with
  | none => rfl
  | some o =>
    rw [e l o q] at h
    cases h
theorem Same.seq {K : PySem.W.Frag} {H H' : Hp} {a : Addr} {xs : List V} (e : Same H H') (h : SqL K H a xs) : SqL K H' a xs := by
  rcases h with (h | ⟨o, h⟩) | h
  · exact .inl (.inl (e _ _ h))
  · exact .inl (.inr ⟨o, e _ _ h⟩)
  · exact .inr h

section
variable {κ : Type} [DecidableEq κ]
end
end L2
set_option Elab.async false
set_option linter.all false
set_option maxRecDepth 100000
namespace L2
open PySem PySem.Spec PyProof.Rows
section
variable {X : Cx}
theorem PE.mono {e : Expr} {t t' : TE} (h : PE X e t) (i : ∀ σ H Q, t' σ H Q → t σ H Q) : PE X e t' := fun pins s σ H Q I q => h pins s σ H Q I (i σ H Q q)
theorem PT.mono {e : Expr} {t t' : TT} (h : PT X e t) (i : ∀ σ H Q, t' σ H Q → t σ H Q) : PT X e t' := fun pins s σ H Q I q => h pins s σ H Q I (i σ H Q q)
theorem PW.mono {e : Expr} {t t' : TT} (h : PW X e t) (i : ∀ σ H Q, t' σ H Q → t σ H Q) : PW X e t' := fun wh pins s σ H Q I q => h wh pins s σ H Q I (i σ H Q q)
theorem PA.mono {e : List Expr} {t t' : TA} (h : PA X e t) (i : ∀ σ H Q, t' σ H Q → t σ H Q) : PA X e t' := fun pos pins s σ H Q I q => h pos pins s σ H Q I (i σ H Q q)
theorem PS.mono {e : Stmt} {t t' : TS} (h : PS X e t) (i : ∀ D σ H, t' D σ H → t D σ H) : PS X e t' := fun pins s σ H D I q => h pins s σ H D I (i D σ H q)
theorem PSs.mono {e : List Stmt} {t t' : TS} (h : PSs X e t) (i : ∀ D σ H, t' D σ H → t D σ H) : PSs X e t' := fun pins s σ H D I q => h pins s σ H D I (i D σ H q)
theorem PG.mono {e : Expr} {t t' : TG} (h : PG X e t) (i : ∀ v σ H Q, t' v σ H Q → t v σ H Q) : PG X e t' := fun pins s σ H v u Q I r q => h pins s σ H v u Q I r (i v σ H Q q)
theorem PGs.mono {e : List Expr} {t t' : TGs} (h : PGs X e t) (i : ∀ v σ H Q, t' v σ H Q → t v σ H Q) : PGs X e t' := fun pins s σ H v u Q I r q => h pins s σ H v u Q I r (i v σ H Q q)
theorem PI.mono {g e : Expr} {t t' : TI} (h : PI X g e t) (i : ∀ σ H Q, t' σ H Q → t σ H Q) : PI X g e t' := fun pins s σ H Q I q => h pins s σ H Q I (i σ H Q q)
end
theorem sizeLine_ge : 1000000 ≤ sizeLine := by decide
end L2
set_option linter.all false
set_option maxRecDepth 100000
namespace L3
open PySem L2
inductive D where
  | non | bl (b : Bool) | int (i : Int) | str (x : Str)
  | tup (xs : List D) | lst (xs : List D)
  | dK (ks : List Key) (xs : List D) | dT (ks : List (List Key)) (xs : List D)
  | obj (c : Str) (ns : List Str) (xs : List D)
  | scr (xs : List D)
  | ty (n : String)

mutual
/-- the value v, in the heap F, is the tree d -/
noncomputable def Rep (K : PySem.W.Frag) (F : Hp) : D → V → Prop
  | .non, v => v = .non
  | .bl b, v => v = .bl b
  | .int i, v => v = .int i
  | .str x, v => v = .str x
  | .tup xs, v => ∃ a vs, v = .ref a ∧ F a = some (.tup vs) ∧ Reps K F xs vs
  | .lst xs, v => ∃ a vs, v = .ref a ∧ F a = some (.lst vs) ∧ Reps K F xs vs
  | .dK ks xs, v => ∃ a vs, v = .ref a ∧ F a = some (.dK (ks.zip vs)) ∧ ks.length = vs.length ∧ Reps K F xs vs
  | .dT ks xs, v => ∃ a vs, v = .ref a ∧ F a = some (.dT (ks.zip vs)) ∧ ks.length = vs.length ∧ Reps K F xs vs
  | .obj c ns xs, v => ∃ a C dx vs, v = .ref a ∧ PySem.W.nsIn K PySem.mainGlobals c = some (some (.ref C)) ∧ F a = some (.ins C dx (ns.zip vs)) ∧ ns.length = vs.length ∧ Reps K F xs vs
  | .scr xs, v => ∃ a vs, v = .ref a ∧ SqL K F a vs ∧ Reps K F xs vs
  | .ty n, v => v = .ty n
noncomputable def Reps (K : PySem.W.Frag) (F : Hp) : List D → List V → Prop
  | [], vs => vs = []
  | d :: ds, vs => ∃ v r, vs = v :: r ∧ Rep K F d v ∧ Reps K F ds r
end
theorem Same.seqT {K : PySem.W.Frag} {H H' : Hp} {a : Addr} {xs : List V} (e : Same H H') (h : SqT K H a xs) : SqT K H' a xs := by
  rcases h with (h | ⟨o, h⟩) | h
  · exact .inl (.inl (e _ _ h))
  · exact .inl (.inr ⟨o, e _ _ h⟩)
  · exact .inr h

section
variable {K : PySem.W.Frag} {F F' H H' H0 F0 : Hp}
mutual
theorem Rep.mono (e : Same F F') : ∀ {d : D} {v : V}, Rep K F d v → Rep K F' d v
  | .non, _, h => h
  | .bl _, _, h => h
  | .int _, _, h => h
  | .str _, _, h => h
  | .ty _, _, h => by rw [Rep] at h ⊢; exact h
  | .tup _, _, h => by
    rw [Rep] at h ⊢
    obtain ⟨a, vs, h1, h2, h3⟩ := h
    exact ⟨a, vs, h1, e _ _ h2, Reps.mono e h3⟩
  | .lst _, _, h => by
    rw [Rep] at h ⊢
    obtain ⟨a, vs, h1, h2, h3⟩ := h
    exact ⟨a, vs, h1, e _ _ h2, Reps.mono e h3⟩
  | .dK _ _, _, h => by
    rw [Rep] at h ⊢
    obtain ⟨a, vs, h1, h2, h3, h4⟩ := h
    exact ⟨a, vs, h1, e _ _ h2, h3, Reps.mono e h4⟩
  | .dT _ _, _, h => by
    rw [Rep] at h ⊢
    obtain ⟨a, vs, h1, h2, h3, h4⟩ := h
    exact ⟨a, vs, h1, e _ _ h2, h3, Reps.mono e h4⟩
  | .obj _ _ _, _, h => by
    rw [Rep] at h ⊢
    obtain ⟨a, C, dx, vs, h1, hc, h2, h3, h4⟩ := h
    exact ⟨a, C, dx, vs, h1, hc, e _ _ h2, h3, Reps.mono e h4⟩
  | .scr _, _, h => by
    rw [Rep] at h ⊢
    obtain ⟨a, vs, h1, h2, h3⟩ := h
    exact ⟨a, vs, h1, Same.seq e h2, Reps.mono e h3⟩
theorem Reps.mono (e : Same F F') : ∀ {ds : List D} {vs : List V}, Reps K F ds vs → Reps K F' ds vs
  | [], _, h => by rw [Reps] at h ⊢; exact h
  | _ :: _, _, h => by
    rw [Reps] at h ⊢
    obtain ⟨v, r, h1, h2, h3⟩ := h
    exact ⟨v, r, h1, Rep.mono e h2, Reps.mono e h3⟩
end
theorem Reps.nil : Reps K F [] [] := by rw [Reps]
theorem Reps.cons {d : D} {ds : List D} {v : V} {vs : List V} (h : Rep K F d v) (t : Reps K F ds vs) : Reps K F (d :: ds) (v :: vs) := by rw [Reps]; exact ⟨v, vs, rfl, h, t⟩
theorem Reps.uncons {d : D} {ds : List D} {vs : List V} (h : Reps K F (d :: ds) vs) : ∃ v r, vs = v :: r ∧ Rep K F d v ∧ Reps K F ds r := by rw [Reps] at h; exact h
theorem Reps.unnil {vs : List V} (h : Reps K F [] vs) : vs = [] := by rw [Reps] at h; exact h
theorem Reps.length : ∀ {ds : List D} {vs : List V}, Reps K F ds vs → ds.length = vs.length
  | [], _, h => by rw [h.unnil]; rfl
  | _ :: _, _, h => by obtain ⟨v, r, rfl, _, t⟩ := h.uncons; simp [Reps.length t]
theorem Reps.get : ∀ {ds : List D} {vs : List V} {i : Nat} {d : D}, Reps K F ds vs → ds[i]? = some d → ∃ v, vs[i]? = some v ∧ Rep K F d v
  | [], _, _, _, _, e => by simp at e
  | _ :: _, _, 0, _, h, e => by
    obtain ⟨v, r, rfl, h1, _⟩ := h.uncons
    simp at e; subst e; exact ⟨v, rfl, h1⟩
  | _ :: _, _, i + 1, _, h, e => by
    obtain ⟨v, r, rfl, _, t⟩ := h.uncons
    obtain ⟨u, e1, h1⟩ := Reps.get (i := i) t (by simpa using e)
    exact ⟨u, by simpa using e1, h1⟩
theorem Reps.app : ∀ {ds es : List D} {vs us : List V}, Reps K F ds vs → Reps K F es us → Reps K F (ds ++ es) (vs ++ us)
  | [], _, _, _, h, g => by rw [h.unnil]; exact g
  | _ :: _, _, _, _, h, g => by obtain ⟨v, r, rfl, h1, t⟩ := h.uncons; exact .cons h1 (Reps.app t g)
theorem Reps.drop : ∀ {ds : List D} {vs : List V} (n : Nat), Reps K F ds vs → Reps K F (ds.drop n) (vs.drop n)
  | _, _, 0, h => h
  | [], _, _ + 1, h => by rw [h.unnil]; exact .nil
  | _ :: _, _, n + 1, h => by obtain ⟨u, t, rfl, _, h2⟩ := h.uncons; exact Reps.drop n h2
theorem Reps.take : ∀ {ds : List D} {vs : List V} (n : Nat), Reps K F ds vs → Reps K F (ds.take n) (vs.take n)
  | _, _, 0, _ => .nil
  | [], _, _ + 1, h => by rw [h.unnil]; exact .nil
  | _ :: _, _, n + 1, h => by obtain ⟨u, t, rfl, h1, h2⟩ := h.uncons; exact .cons h1 (Reps.take n h2)
theorem Reps.rep {ds : List D} {vs : List V} (h : Reps K F ds vs) : ∀ k : Nat, Reps K F (List.replicate k ds).flatten (List.replicate k vs).flatten
  | 0 => .nil
  | k + 1 => by rw [List.replicate_succ, List.replicate_succ, List.flatten_cons, List.flatten_cons]; exact .app h (Reps.rep h k)

noncomputable def Cell (K : PySem.W.Frag) (F H : Hp) (a : Addr) : D → Prop
  | .lst xs => ∃ vs, H a = some (.lst vs) ∧ Reps K F xs vs
  | .dK ks xs => ∃ vs, H a = some (.dK (ks.zip vs)) ∧ ks.length = vs.length ∧ Reps K F xs vs
  | .dT ks xs => ∃ vs, H a = some (.dT (ks.zip vs)) ∧ ks.length = vs.length ∧ Reps K F xs vs
  | .obj c ns xs => ∃ C dx vs, PySem.W.nsIn K PySem.mainGlobals c = some (some (.ref C)) ∧ H a = some (.ins C dx (ns.zip vs)) ∧ ns.length = vs.length ∧ Reps K F xs vs
  | _ => False
theorem Cell.some {a : Addr} {d : D} (h : Cell K F H a d) : ∃ o, H a = some o := by
  cases d <;> first | exact h.elim | (obtain ⟨vs, h, _⟩ := h; exact ⟨_, h⟩) | (obtain ⟨C, dx, vs, _, h, _⟩ := h; exact ⟨_, h⟩)
theorem Cell.mono {a : Addr} {d : D} (h : Cell K F H a d) (e : Same F F') (k : ∀ o, H a = .some o → H' a = .some o) : Cell K F' H' a d := by
  cases d with
  | lst xs => obtain ⟨vs, h1, h2⟩ := h; exact ⟨vs, k _ h1, h2.mono e⟩
  | dK ks xs => obtain ⟨vs, h1, h2, h3⟩ := h; exact ⟨vs, k _ h1, h2, h3.mono e⟩
  | dT ks xs => obtain ⟨vs, h1, h2, h3⟩ := h; exact ⟨vs, k _ h1, h2, h3.mono e⟩
  | obj c ns xs => obtain ⟨C, dx, vs, hc, h1, h2, h3⟩ := h; exact ⟨C, dx, vs, hc, k _ h1, h2, h3.mono e⟩
  | _ => exact h.elim
theorem Cell.rep {a : Addr} {d : D} (h : Cell K F H a d) (e : Same F F') (k : ∀ o, H a = .some o → F' a = .some o) : Rep K F' d (.ref a) := by
  cases d with
  | lst xs => obtain ⟨vs, h1, h2⟩ := h; rw [Rep]; exact ⟨a, vs, rfl, k _ h1, h2.mono e⟩
  | dK ks xs => obtain ⟨vs, h1, h2, h3⟩ := h; rw [Rep]; exact ⟨a, vs, rfl, k _ h1, h2, h3.mono e⟩
  | dT ks xs => obtain ⟨vs, h1, h2, h3⟩ := h; rw [Rep]; exact ⟨a, vs, rfl, k _ h1, h2, h3.mono e⟩
  | obj c ns xs => obtain ⟨C, dx, vs, hc, h1, h2, h3⟩ := h; rw [Rep]; exact ⟨a, C, dx, vs, rfl, hc, k _ h1, h2, h3.mono e⟩
  | _ => exact h.elim

noncomputable def RdV (K : PySem.W.Frag) (F H : Hp) (d : D) (v : V) : Prop := Rep K F d v ∨ ∃ a, v = .ref a ∧ Cell K F H a d

structure Step (F H F' H' : Hp) : Prop where
  up : Same F F'
  sub : Same F' H'
  keep : Same H H'
  new : ∀ a o, F' a = some o → F a = some o ∨ H a = none
theorem Step.refl (h : Same F H) : Step F H F H := ⟨.refl _, h, .refl _, fun _ _ e => .inl e⟩
theorem Step.trans {F1 H1 F2 H2 : Hp} (a : Step F H F1 H1) (b : Step F1 H1 F2 H2) : Step F H F2 H2 :=
  ⟨a.up.trans b.up, b.sub, a.keep.trans b.keep, fun c o e => by
    rcases b.new c o e with e1 | e1
    · exact a.new c o e1
    · exact .inr (a.keep.free e1)⟩
theorem Step.unfz {a : Addr} {o : HO} (s : Step F H F' H') (h : H a = some o) (n : F a = none) : F' a = none := by
  cases q : F' a with
  | none => rfl
  | some u =>
    rcases s.new a u q with e | e
    · rw [n] at e; cases e
    · rw [h] at e; cases e

inductive Kd where | fz | ow | bo
noncomputable def Val (K : PySem.W.Frag) (F' H H' : Hp) : Kd → D → V → Prop
  | .fz, d, v => Rep K F' d v
  | .ow, d, v => ∃ a, v = .ref a ∧ H a = none ∧ F' a = none ∧ Cell K F' H' a d
  | .bo, d, v => ∃ a, v = .ref a ∧ F' a = none ∧ Cell K F' H' a d
theorem Val.rd {k : Kd} {d : D} {v : V} (h : Val K F' H H' k d v) : RdV K F' H' d v := by
  cases k with
  | fz => exact .inl h
  | ow => obtain ⟨a, h1, _, _, h2⟩ := h; exact .inr ⟨a, h1, h2⟩
  | bo => obtain ⟨a, h1, _, h2⟩ := h; exact .inr ⟨a, h1, h2⟩
theorem Val.later {k : Kd} {d : D} {v : V} {F1 H1 : Hp} (h : Val K F' H H' k d v) (s : Step F' H' F1 H1) : Val K F1 H H1 k d v := by
  cases k with
  | fz => exact Rep.mono s.up h
  | ow => obtain ⟨a, h1, h2, h3, h4⟩ := h; obtain ⟨o, ho⟩ := h4.some; exact ⟨a, h1, h2, s.unfz ho h3, h4.mono s.up fun o e => s.keep _ _ e⟩
  | bo => obtain ⟨a, h1, h3, h4⟩ := h; obtain ⟨o, ho⟩ := h4.some; exact ⟨a, h1, s.unfz ho h3, h4.mono s.up fun o e => s.keep _ _ e⟩
theorem Val.early {k : Kd} {d : D} {v : V} {H1 : Hp} (h : Val K F' H1 H' k d v) (e : Same H H1) : Val K F' H H' k d v := by
  cases k with
  | fz => exact h
  | ow => obtain ⟨a, h1, h2, h3, h4⟩ := h; exact ⟨a, h1, e.free h2, h3, h4⟩
  | bo => exact h
theorem RdV.later {d : D} {v : V} {F1 H1 : Hp} (h : RdV K F H d v) (s : Step F H F1 H1) : RdV K F1 H1 d v := by
  rcases h with h | ⟨a, h1, h2⟩
  · exact .inl (h.mono s.up)
  · exact .inr ⟨a, h1, h2.mono s.up fun o e => s.keep _ _ e⟩
theorem RdV.rep {d : D} {v : V} (h : RdV K F H d v) (s : Same F H) : Rep K H d v := by
  rcases h with h | ⟨a, rfl, h2⟩
  · exact h.mono s
  · exact h2.rep s fun o e => e

theorem RdV.non {v : V} (h : RdV K F H .non v) : v = .non := by
  rcases h with h | ⟨a, _, h⟩
  · rw [Rep] at h; exact h
  · exact h.elim
theorem RdV.bl {b : Bool} {v : V} (h : RdV K F H (.bl b) v) : v = .bl b := by
  rcases h with h | ⟨a, _, h⟩
  · rw [Rep] at h; exact h
  · exact h.elim
theorem RdV.int {i : Int} {v : V} (h : RdV K F H (.int i) v) : v = .int i := by
  rcases h with h | ⟨a, _, h⟩
  · rw [Rep] at h; exact h
  · exact h.elim
theorem RdV.str {x : Str} {v : V} (h : RdV K F H (.str x) v) : v = .str x := by
  rcases h with h | ⟨a, _, h⟩
  · rw [Rep] at h; exact h
  · exact h.elim
theorem RdV.ty {n : String} {v : V} (h : RdV K F H (.ty n) v) : v = .ty n := by
  rcases h with h | ⟨a, _, h⟩
  · rw [Rep] at h; exact h
  · exact h.elim
theorem RdV.tup {xs : List D} {v : V} (s : Same F H) (h : RdV K F H (.tup xs) v) : ∃ a vs, v = .ref a ∧ H a = some (.tup vs) ∧ Reps K F xs vs := by
  rcases h with h | ⟨a, _, h⟩
  · rw [Rep] at h
    obtain ⟨a, vs, h1, h2, h3⟩ := h
    exact ⟨a, vs, h1, s _ _ h2, h3⟩
  · exact h.elim
theorem RdV.lst {xs : List D} {v : V} (s : Same F H) (h : RdV K F H (.lst xs) v) : ∃ a vs, v = .ref a ∧ H a = some (.lst vs) ∧ Reps K F xs vs := by
  rcases h with h | ⟨a, h1, h⟩
  · rw [Rep] at h
    obtain ⟨a, vs, h1, h2, h3⟩ := h
    exact ⟨a, vs, h1, s _ _ h2, h3⟩
  · obtain ⟨vs, h2, h3⟩ := h
    exact ⟨a, vs, h1, h2, h3⟩
theorem RdV.scr {xs : List D} {v : V} (s : Same F H) (h : RdV K F H (.scr xs) v) : ∃ a vs, v = .ref a ∧ SqL K H a vs ∧ Reps K F xs vs := by
  rcases h with h | ⟨a, _, h⟩
  · rw [Rep] at h
    obtain ⟨a, vs, h1, h2, h3⟩ := h
    exact ⟨a, vs, h1, Same.seq s h2, h3⟩
  · exact h.elim

structure Post (K : PySem.W.Frag) (F H : Hp) (k : Kd) (d : D) (F' : Hp) (v : V) (H' : Hp) : Prop where
  st : Step F H F' H'
  val : Val K F' H H' k d v
theorem Post.frz {d : D} {v : V} (p : Post K F H .ow d F' v H') : ∃ F'', Post K F H .fz d F'' v H' := by
  obtain ⟨s, a, rfl, h1, h2, h3⟩ := p
  obtain ⟨o, ho⟩ := h3.some
  have up : Same F' (upd F' a o) := fun b u e => by
    rw [upd_ne]; exact e
    rintro rfl; rw [h2] at e; cases e
  refine ⟨upd F' a o, ⟨s.up.trans up, fun b u e => ?_, s.keep, fun b u e => ?_⟩, h3.rep up fun o' e => ?_⟩
  · by_cases hb : b = a
    · subst hb; rw [upd_same] at e; cases e; exact ho
    · rw [upd_ne hb] at e; exact s.sub _ _ e
  · by_cases hb : b = a
    · subst hb; exact .inr h1
    · rw [upd_ne hb] at e; exact s.new _ _ e
  · rw [ho] at e; cases e; exact upd_same
theorem Post.own {a : Addr} {o : HO} {d : D} (s : Step F H F' H') (n : H' a = none) (c : ∀ H2, H2 a = some o → Cell K F' H2 a d) : Post K F H .ow d F' (.ref a) (upd H' a o) := by
  have up : Same H' (upd H' a o) := fun b u e => by
    rw [upd_ne]; exact e
    rintro rfl; rw [n] at e; cases e
  exact ⟨⟨s.up, s.sub.trans up, s.keep.trans up, s.new⟩, a, rfl, s.keep.free n, s.sub.free n, c _ upd_same⟩
theorem Post.made {a : Addr} {o : HO} {d : D} (s : Step F H F' H') (n : H' a = none) (c : ∀ F2, Same F' F2 → F2 a = some o → Rep K F2 d (.ref a)) : ∃ F2, Post K F H .fz d F2 (.ref a) (upd H' a o) := by
  have up : ∀ G : Hp, G a = none → Same G (upd G a o) := fun G n b u e => by
    rw [upd_ne]; exact e
    rintro rfl; rw [n] at e; cases e
  have nf : F' a = none := s.sub.free n
  refine ⟨upd F' a o, ⟨s.up.trans (up _ nf), fun b u e => ?_, s.keep.trans (up _ n), fun b u e => ?_⟩, c _ (up _ nf) upd_same⟩
  · by_cases hb : b = a
    · subst hb; rw [upd_same] at e ⊢; exact e
    · rw [upd_ne hb] at e ⊢; exact s.sub _ _ e
  · by_cases hb : b = a
    · subst hb; exact .inr (s.keep.free n)
    · rw [upd_ne hb] at e; exact s.new _ _ e
theorem Post.pure {d : D} {v : V} (s : Step F H F' H') (h : Rep K F' d v) : Post K F H .fz d F' v H' := ⟨s, h⟩

noncomputable abbrev Ev := List (Option (Kd × D))
structure FI (K : PySem.W.Frag) (F0 H0 F H : Hp) (ev : Ev) (σ : St) : Prop where
  st : Step F0 H0 F H
  at_ : ∀ (i : Nat) k d, ev[i]? = some (some (k, d)) → k ≠ .bo ∧ ∃ v, σ[i]? = some (some v) ∧ Val K F H0 H k d v
  apart : ∀ (i j : Nat) d e, i ≠ j → ev[i]? = some (some (.ow, d)) → ev[j]? = some (some (.ow, e)) → σ[i]? ≠ σ[j]?
  len : ev.length = σ.length
variable {ev : Ev} {σ : St}
theorem FI.later {F1 H1 : Hp} (f : FI K F0 H0 F H ev σ) (s : Step F H F1 H1) : FI K F0 H0 F1 H1 ev σ :=
  ⟨f.st.trans s, fun i k d e => by obtain ⟨n, v, e1, h⟩ := f.at_ i k d e; exact ⟨n, v, e1, h.later s⟩, f.apart, f.len⟩
theorem FI.sub (f : FI K F0 H0 F H ev σ) : Same F H := f.st.sub
theorem FI.refl (f : FI K F0 H0 F H ev σ) : Step F H F H := .refl f.sub
theorem FI.set {i : Nat} {k : Kd} {d : D} {v : V} (f : FI K F0 H0 F H ev σ) (p : Post K F H k d F' v H') (nb : k ≠ .bo) : FI K F0 H0 F' H' (ev.set i (some (k, d))) (σ.set i (some v)) := by
  have f' := f.later p.st
  refine ⟨f'.st, fun j k' d' e => ?_, fun j l d1 d2 hjl e1 e2 => ?_, by simpa using f.len⟩
  · by_cases hj : i = j
    · subst hj
      rw [List.getElem?_set_self'] at e
      cases q : ev[i]? with
      | none => rw [q] at e; cases e
      | some z =>
        rw [q] at e
        cases e
        have hi : i < σ.length := by rw [← f.len]; exact (List.getElem?_eq_some_iff.mp q).1
        exact ⟨nb, v, by rw [List.getElem?_set_self hi], p.val.early f.st.keep⟩
    · rw [List.getElem?_set_ne hj] at e ⊢
      exact f'.at_ j k' d' e
  · -- an owned new one differs from the others
    have key : ∀ (j : Nat) (e' : D), i ≠ j → k = .ow → ev[j]? = some (some (.ow, e')) → σ[j]? ≠ some (some v) := fun j e' hij hk ej z => by
      subst hk
      obtain ⟨_, u, ej', b, hb, _, _, c⟩ := f.at_ j _ _ ej
      obtain ⟨a, ha, hn, _, _⟩ := p.val
      rw [z] at ej'
      have ej'' : v = u := by simpa using ej'
      subst ej''; subst ha; cases hb
      obtain ⟨o, ho⟩ := c.some
      rw [hn] at ho; cases ho
    have inEv : ∀ {m : Nat} {x : Option (Kd × D)}, (ev.set i (some (k, d)))[i]? = some x → (σ.set i (some v))[i]? = some (some v) := fun {m x} e => by
      rw [List.getElem?_set_self'] at e
      cases q : ev[i]? with
      | none => rw [q] at e; cases e
      | some z =>
        have hi : i < σ.length := by rw [← f.len]; exact (List.getElem?_eq_some_iff.mp q).1
        rw [List.getElem?_set_self hi]
    have kow : ∀ {x : D}, (ev.set i (some (k, d)))[i]? = some (some (.ow, x)) → k = .ow := fun {x} e => by
      rw [List.getElem?_set_self'] at e
      cases q : ev[i]? with
      | none => rw [q] at e; cases e
      | some z =>
        rw [q] at e
        have : some (k, d) = some (Kd.ow, x) := Option.some.inj e
        cases this; rfl
    by_cases hj : i = j
    · subst hj
      rw [List.getElem?_set_ne hjl] at e2
      rw [inEv (m := i) e1, List.getElem?_set_ne hjl]
      exact fun z => key l d2 hjl (kow e1) e2 z.symm
    · by_cases hl : i = l
      · subst hl
        rw [List.getElem?_set_ne hj] at e1
        rw [inEv (m := i) e2, List.getElem?_set_ne hj]
        exact fun z => key j d1 hj (kow e2) e1 z
      · rw [List.getElem?_set_ne hj] at e1 ⊢
        rw [List.getElem?_set_ne hl] at e2 ⊢
        exact f.apart j l d1 d2 hjl e1 e2
theorem FI.weak {ev' : Ev} (f : FI K F0 H0 F H ev σ) (hl : ev'.length = ev.length) (w : ∀ (i : Nat) k d, ev'[i]? = some (some (k, d)) → ev[i]? = some (some (k, d))) : FI K F0 H0 F H ev' σ :=
  ⟨f.st, fun i k d e => f.at_ i k d (w i k d e), fun i j d e h a b => f.apart i j d e h (w _ _ _ a) (w _ _ _ b), hl.trans f.len⟩
end
end L3
set_option linter.all false
set_option maxRecDepth 100000
namespace L3
open PySem L2
inductive R where | ok (k : Kd) (d : D) | ex (C : Addr) | no
inductive RA where | ok (l : List (Kd × D)) | ex (C : Addr) | no
inductive Fl where | nx (ev : Ev) | rt (k : Kd) (d : D) | bk (ev : Ev) | ct (ev : Ev) | ex (C : Addr) | no
noncomputable abbrev Psi := Addr → Hp → Prop

noncomputable def ValA (K : PySem.W.Frag) (F' H H' : Hp) : List (Kd × D) → List V → Prop
  | [], vs => vs = []
  | (k, d) :: l, vs => ∃ v r, vs = v :: r ∧ k ≠ .ow ∧ Val K F' H H' k d v ∧ ValA K F' H H' l r

noncomputable def tV (K : PySem.W.Frag) (F0 H0 : Hp) (Ψ : Psi) (f : Ev → R) : TE := fun σ H Q => ∃ F ev, FI K F0 H0 F H ev σ ∧ match f ev with
  | .ok k d => ∀ F' v H', Post K F H k d F' v H' → Q v H'
  | .ex C => ∀ F' H', Step F0 H0 F' H' → Ψ C H'
  | .no => False
noncomputable def tVT (K : PySem.W.Frag) (F0 H0 : Hp) (Ψ : Psi) (f : Ev → R) : TT := fun σ H Q => ∃ F ev, FI K F0 H0 F H ev σ ∧ match f ev with
  | .ok _ (.bl b) => ∀ F' H', Step F H F' H' → Q b H'
  | .ex C => ∀ F' H', Step F0 H0 F' H' → Ψ C H'
  | _ => False
noncomputable def tVA (K : PySem.W.Frag) (F0 H0 : Hp) (Ψ : Psi) (f : Ev → RA) : TA := fun σ H Q => ∃ F ev, FI K F0 H0 F H ev σ ∧ match f ev with
  | .ok l => ∀ F' vs H', Step F H F' H' → ValA K F' H H' l vs → Q vs H'
  | .ex C => ∀ F' H', Step F0 H0 F' H' → Ψ C H'
  | .no => False
noncomputable def FlowTo (K : PySem.W.Frag) (F0 H0 : Hp) (Ψ : Psi) (F : Hp) (D : Ends) : Fl → Prop
  | .nx ev => ∀ F' H' σ', Same F F' → FI K F0 H0 F' H' ev σ' → D.nx σ' H'
  | .rt k d => ∀ F' v H', Post K F0 H0 k d F' v H' → D.rt v H'
  | .bk ev => ∀ F' H' σ', Same F F' → FI K F0 H0 F' H' ev σ' → D.bk σ' H'
  | .ct ev => ∀ F' H' σ', Same F F' → FI K F0 H0 F' H' ev σ' → D.ct σ' H'
  | .ex C => ∀ F' H', Step F0 H0 F' H' → Ψ C H'
  | .no => False
noncomputable def tSv (K : PySem.W.Frag) (F0 H0 : Hp) (Ψ : Psi) (g : Ev → Fl) : TS := fun D σ H => ∃ F ev, FI K F0 H0 F H ev σ ∧ FlowTo K F0 H0 Ψ F D (g ev)

noncomputable def VE (X : Cx) (F0 H0 : Hp) (Ψ : Psi) (e : Expr) (f : Ev → R) : Prop := PE X e (tV X.K F0 H0 Ψ f)
noncomputable def VT (X : Cx) (F0 H0 : Hp) (Ψ : Psi) (e : Expr) (f : Ev → R) : Prop := PT X e (tVT X.K F0 H0 Ψ f)
noncomputable def VW (X : Cx) (F0 H0 : Hp) (Ψ : Psi) (e : Expr) (f : Ev → R) : Prop := PW X e (tVT X.K F0 H0 Ψ f)
noncomputable def VA (X : Cx) (F0 H0 : Hp) (Ψ : Psi) (es : List Expr) (f : Ev → RA) : Prop := PA X es (tVA X.K F0 H0 Ψ f)
noncomputable def VS (X : Cx) (F0 H0 : Hp) (Ψ : Psi) (st : Stmt) (g : Ev → Fl) : Prop := PS X st (tSv X.K F0 H0 Ψ g)
noncomputable def VSs (X : Cx) (F0 H0 : Hp) (Ψ : Psi) (sts : List Stmt) (g : Ev → Fl) : Prop := PSs X sts (tSv X.K F0 H0 Ψ g)

section
variable {X : Cx} {K : PySem.W.Frag} {F0 H0 F H F' H' : Hp} {Ψ : Psi} {σ : St} {ev : Ev}
noncomputable def varR (i : Nat) (ev : Ev) : R := match ev[i]? with
  | some (some (.fz, d)) => .ok .fz d
  | some (some (.ow, d)) => .ok .bo d
  | _ => .no
theorem tVar_of {i : Nat} {Q : VK} (h : tV K F0 H0 Ψ (varR i) σ H Q) : tVar i σ H Q := by
  obtain ⟨F, ev, fi, m⟩ := h
  unfold varR at m
  split at m
  · rename_i k d hm
    split at hm
    · rename_i d' e
      cases hm
      obtain ⟨_, v, e1, hv⟩ := fi.at_ _ _ _ e
      exact ⟨v, e1, m F v H ⟨fi.refl, hv⟩⟩
    · rename_i d' e
      cases hm
      obtain ⟨_, v, e1, a, h1, h2, h3, h4⟩ := fi.at_ _ _ _ e
      exact ⟨v, e1, m F v H ⟨fi.refl, a, h1, h3, h4⟩⟩
    · cases hm
  · rename_i C hm
    split at hm <;> cases hm
  · exact m.elim
noncomputable def conR (d : D) (_ : Ev) : R := .ok .fz d
theorem tC_of {v : V} {d : D} {Q : VK} (r : Rep K F0 d v) (h : tV K F0 H0 Ψ (conR d) σ H Q) : tC v σ H Q := by
  obtain ⟨F, ev, fi, m⟩ := h
  exact m F v H ⟨fi.refl, r.mono fi.st.up⟩

noncomputable abbrev G2 := D → D → Option (Kd × D)
noncomputable def toR : Option (Kd × D) → R
  | some (k, d) => .ok k d
  | none => .no
noncomputable def op2 (g : G2) : R → R → R
  | .ok _ a, .ok _ b => toR (g a b)
  | .ok _ _, r => r
  | r, _ => r
noncomputable def OkOp (K : PySem.W.Frag) (r : R2) (g : G2) : Prop := ∀ (F H : Hp) dx dy x y k d (Q : VK), Same F H → RdV K F H dx x → RdV K F H dy y → g dx dy = some (k, d) → (∀ F' v H', Post K F H k d F' v H' → Q v H') → r x y H Q
theorem OkOp.or {r r' : R2} {g g' : G2} (h : OkOp K r g) (h' : OkOp K r' g') : OkOp K (fun x y H Q => r x y H Q ∨ r' x y H Q) (fun a b => (g a b).or (g' a b)) := by
  intro F H dx dy x y k d Q s rx ry e q
  dsimp only at e
  cases e1 : g dx dy with
  | some z => obtain ⟨k', d'⟩ := z; rw [e1] at e; cases e; exact .inl (h F H dx dy x y k d Q s rx ry e1 q)
  | none => rw [e1] at e; exact .inr (h' F H dx dy x y k d Q s rx ry e q)
theorem tOp_of {r : R2} {g : G2} {f1 f2 : Ev → R} {Q : VK} (ho : OkOp K r g) (h : tV K F0 H0 Ψ (fun ev => op2 g (f1 ev) (f2 ev)) σ H Q) : tOp r (tV K F0 H0 Ψ f1) (tV K F0 H0 Ψ f2) σ H Q := by
  obtain ⟨F, ev, fi, m⟩ := h
  try dsimp only at m
  refine ⟨F, ev, fi, ?_⟩
  cases h1 : f1 ev with
  | no => rw [h1] at m; exact m
  | ex C => rw [h1] at m; exact m
  | ok k1 d1 =>
    rw [h1] at m
    intro F1 x H1 p1
    refine ⟨F1, ev, fi.later p1.st, ?_⟩
    cases h2 : f2 ev with
    | no => rw [h2] at m; exact m
    | ex C => rw [h2] at m; exact m
    | ok k2 d2 =>
      rw [h2] at m
      intro F2 y H2 p2
      have m : match toR (g d1 d2) with
        | .ok k d => ∀ F' v H', Post K F H k d F' v H' → Q v H'
        | .ex C => ∀ F' H', Step F0 H0 F' H' → Ψ C H'
        | .no => False := m
      cases e : g d1 d2 with
      | none => rw [e] at m; exact m.elim
      | some z =>
        obtain ⟨k, d⟩ := z
        rw [e] at m
        have s := p1.st.trans p2.st
        exact ho F2 H2 d1 d2 x y k d Q p2.st.sub (p1.val.rd.later p2.st) p2.val.rd e fun F3 v H3 p3 => m F3 v H3 ⟨s.trans p3.st, p3.val.early s.keep⟩

theorem tB_of {f : Ev → R} {Q : Bool → Hp → Prop} (h : tVT K F0 H0 Ψ f σ H Q) : tB (tV K F0 H0 Ψ f) σ H Q := by
  obtain ⟨F, ev, fi, m⟩ := h
  try dsimp only at m
  refine ⟨F, ev, fi, ?_⟩
  cases h1 : f ev with
  | no => rw [h1] at m; exact m
  | ex C => rw [h1] at m; exact m
  | ok k d =>
    rw [h1] at m
    intro F1 v H1 p
    cases d with
    | bl b => exact ⟨b, p.val.rd.bl, m F1 H1 p.st⟩
    | _ => exact m.elim
noncomputable def andR : R → R → R
  | .ok _ (.bl b), r => if b then r else .ok .fz (.bl false)
  | .ex C, _ => .ex C
  | _, _ => .no
noncomputable def orR : R → R → R
  | .ok _ (.bl b), r => if b then .ok .fz (.bl true) else r
  | .ex C, _ => .ex C
  | _, _ => .no
noncomputable def notR : R → R
  | .ok _ (.bl b) => .ok .fz (.bl !b)
  | .ex C => .ex C
  | _ => .no
theorem tAnd_of {f g : Ev → R} {Q : Bool → Hp → Prop} (h : tVT K F0 H0 Ψ (fun ev => andR (f ev) (g ev)) σ H Q) : tAnd (tVT K F0 H0 Ψ f) (tVT K F0 H0 Ψ g) σ H Q := by
  obtain ⟨F, ev, fi, m⟩ := h
  try dsimp only at m
  refine ⟨F, ev, fi, ?_⟩
  cases h1 : f ev with
  | no => rw [h1] at m; exact m
  | ex C => rw [h1] at m; exact m
  | ok k d =>
    rw [h1] at m
    cases d with
    | bl b =>
      intro F1 H1 p
      cases b with
      | true =>
        rw [if_pos rfl]
        refine ⟨F1, ev, fi.later p, ?_⟩
        have m : match g ev with
          | .ok _ (.bl b) => ∀ F' H', Step F H F' H' → Q b H'
          | .ex C => ∀ F' H', Step F0 H0 F' H' → Ψ C H'
          | _ => False := m
        cases h2 : g ev with
        | no => rw [h2] at m; exact m
        | ex C => rw [h2] at m; exact m
        | ok k2 d2 =>
          rw [h2] at m
          cases d2 with
          | bl b => exact fun F2 H2 p2 => m F2 H2 (p.trans p2)
          | _ => exact m.elim
      | false => rw [if_neg Bool.false_ne_true]; exact m F1 H1 p
    | _ => exact m.elim
theorem tOr_of {f g : Ev → R} {Q : Bool → Hp → Prop} (h : tVT K F0 H0 Ψ (fun ev => orR (f ev) (g ev)) σ H Q) : tOr (tVT K F0 H0 Ψ f) (tVT K F0 H0 Ψ g) σ H Q := by
  obtain ⟨F, ev, fi, m⟩ := h
  try dsimp only at m
  refine ⟨F, ev, fi, ?_⟩
  cases h1 : f ev with
  | no => rw [h1] at m; exact m
  | ex C => rw [h1] at m; exact m
  | ok k d =>
    rw [h1] at m
    cases d with
    | bl b =>
      intro F1 H1 p
      cases b with
      | false =>
        rw [if_neg Bool.false_ne_true]
        refine ⟨F1, ev, fi.later p, ?_⟩
        have m : match g ev with
          | .ok _ (.bl b) => ∀ F' H', Step F H F' H' → Q b H'
          | .ex C => ∀ F' H', Step F0 H0 F' H' → Ψ C H'
          | _ => False := m
        cases h2 : g ev with
        | no => rw [h2] at m; exact m
        | ex C => rw [h2] at m; exact m
        | ok k2 d2 =>
          rw [h2] at m
          cases d2 with
          | bl b => exact fun F2 H2 p2 => m F2 H2 (p.trans p2)
          | _ => exact m.elim
      | true => rw [if_pos rfl]; exact m F1 H1 p
    | _ => exact m.elim
theorem tNot_of {f : Ev → R} {Q : Bool → Hp → Prop} (h : tVT K F0 H0 Ψ (fun ev => notR (f ev)) σ H Q) : tNot (tVT K F0 H0 Ψ f) σ H Q := by
  obtain ⟨F, ev, fi, m⟩ := h
  try dsimp only at m
  refine ⟨F, ev, fi, ?_⟩
  cases h1 : f ev with
  | no => rw [h1] at m; exact m
  | ex C => rw [h1] at m; exact m
  | ok k d =>
    rw [h1] at m
    cases d with
    | bl b => exact fun F1 H1 p => m F1 H1 p
    | _ => exact m.elim
theorem tAndV_of {f g : Ev → R} {Q : VK} (h : tV K F0 H0 Ψ (fun ev => andR (f ev) (g ev)) σ H Q) : tAndV (tV K F0 H0 Ψ f) (tV K F0 H0 Ψ g) σ H Q := by
  obtain ⟨F, ev, fi, m⟩ := h
  try dsimp only at m
  refine ⟨F, ev, fi, ?_⟩
  cases h1 : f ev with
  | no => rw [h1] at m; exact m
  | ex C => rw [h1] at m; exact m
  | ok k d =>
    rw [h1] at m
    intro F1 x H1 p
    cases d with
    | bl b =>
      refine ⟨b, p.val.rd.bl, ?_⟩
      cases b with
      | true =>
        rw [if_pos rfl]
        refine ⟨F1, ev, fi.later p.st, ?_⟩
        have m : match g ev with
          | .ok k d => ∀ F' v H', Post K F H k d F' v H' → Q v H'
          | .ex C => ∀ F' H', Step F0 H0 F' H' → Ψ C H'
          | .no => False := m
        cases h2 : g ev with
        | no => rw [h2] at m; exact m
        | ex C => rw [h2] at m; exact m
        | ok k2 d2 => rw [h2] at m; exact fun F2 y H2 p2 => m F2 y H2 ⟨p.st.trans p2.st, p2.val.early p.st.keep⟩
      | false => rw [if_neg Bool.false_ne_true]; exact m F1 _ H1 ⟨p.st, by rw [Val, Rep]⟩
    | _ => exact m.elim
theorem tOrV_of {f g : Ev → R} {Q : VK} (h : tV K F0 H0 Ψ (fun ev => orR (f ev) (g ev)) σ H Q) : tOrV (tV K F0 H0 Ψ f) (tV K F0 H0 Ψ g) σ H Q := by
  obtain ⟨F, ev, fi, m⟩ := h
  try dsimp only at m
  refine ⟨F, ev, fi, ?_⟩
  cases h1 : f ev with
  | no => rw [h1] at m; exact m
  | ex C => rw [h1] at m; exact m
  | ok k d =>
    rw [h1] at m
    intro F1 x H1 p
    cases d with
    | bl b =>
      refine ⟨b, p.val.rd.bl, ?_⟩
      cases b with
      | false =>
        rw [if_neg Bool.false_ne_true]
        refine ⟨F1, ev, fi.later p.st, ?_⟩
        have m : match g ev with
          | .ok k d => ∀ F' v H', Post K F H k d F' v H' → Q v H'
          | .ex C => ∀ F' H', Step F0 H0 F' H' → Ψ C H'
          | .no => False := m
        cases h2 : g ev with
        | no => rw [h2] at m; exact m
        | ex C => rw [h2] at m; exact m
        | ok k2 d2 => rw [h2] at m; exact fun F2 y H2 p2 => m F2 y H2 ⟨p.st.trans p2.st, p2.val.early p.st.keep⟩
      | true => rw [if_pos rfl]; exact m F1 _ H1 ⟨p.st, by rw [Val, Rep]⟩
    | _ => exact m.elim
noncomputable def ifR : R → R → R → R
  | .ok _ (.bl b), x, y => if b then x else y
  | .ex C, _, _ => .ex C
  | _, _, _ => .no
theorem tIf_of {c f g : Ev → R} {Q : VK} (h : tV K F0 H0 Ψ (fun ev => ifR (c ev) (f ev) (g ev)) σ H Q) : tIf (tVT K F0 H0 Ψ c) (tV K F0 H0 Ψ f) (tV K F0 H0 Ψ g) σ H Q := by
  obtain ⟨F, ev, fi, m⟩ := h
  try dsimp only at m
  refine ⟨F, ev, fi, ?_⟩
  have go : ∀ (r : Ev → R), (match r ev with
          | .ok k d => ∀ F' v H', Post K F H k d F' v H' → Q v H'
          | .ex C => ∀ F' H', Step F0 H0 F' H' → Ψ C H'
          | .no => False) → ∀ F1 H1, Step F H F1 H1 → tV K F0 H0 Ψ r σ H1 Q := fun r m F1 H1 p => by
    refine ⟨F1, ev, fi.later p, ?_⟩
    cases h2 : r ev with
    | no => rw [h2] at m; exact m
    | ex C => rw [h2] at m; exact m
    | ok k2 d2 => rw [h2] at m; exact fun F2 y H2 p2 => m F2 y H2 ⟨p.trans p2.st, p2.val.early p.keep⟩
  cases h1 : c ev with
  | no => rw [h1] at m; exact m
  | ex C => rw [h1] at m; exact m
  | ok k d =>
    rw [h1] at m
    cases d with
    | bl b =>
      intro F1 H1 p
      cases b with
      | true => rw [if_pos rfl]; exact go f m F1 H1 p
      | false => rw [if_neg Bool.false_ne_true]; exact go g m F1 H1 p
    | _ => exact m.elim

noncomputable def frzK : Kd → Kd
  | .ow => .fz
  | k => k
noncomputable def consA : R → RA → RA
  | .ok k d, .ok l => .ok ((frzK k, d) :: l)
  | .ok _ _, r => r
  | .ex C, _ => .ex C
  | .no, _ => .no
theorem ValA.later {F1 H1 : Hp} : ∀ {l : List (Kd × D)} {vs : List V}, ValA K F' H H' l vs → Step F' H' F1 H1 → ValA K F1 H H1 l vs
  | [], _, h, _ => h
  | (k, d) :: l, _, h, s => by
    obtain ⟨v, r, h1, h2, h3, h4⟩ := h
    exact ⟨v, r, h1, h2, h3.later s, ValA.later h4 s⟩
theorem ValA.early {H1 : Hp} : ∀ {l : List (Kd × D)} {vs : List V}, ValA K F' H1 H' l vs → Same H H1 → ValA K F' H H' l vs
  | [], _, h, _ => h
  | (k, d) :: l, _, h, s => by
    obtain ⟨v, r, h1, h2, h3, h4⟩ := h
    exact ⟨v, r, h1, h2, h3.early s, ValA.early h4 s⟩
theorem Post.frzK {k : Kd} {d : D} {v : V} (p : Post K F H k d F' v H') : ∃ F'', Post K F H (frzK k) d F'' v H' ∧ L3.frzK k ≠ .ow := by
  cases k with
  | fz => exact ⟨F', p, by simp [L3.frzK]⟩
  | bo => exact ⟨F', p, by simp [L3.frzK]⟩
  | ow => obtain ⟨F'', q⟩ := p.frz; exact ⟨F'', q, by simp [L3.frzK]⟩
theorem tNil_of {Q : List V → Hp → Prop} (h : tVA K F0 H0 Ψ (fun _ => .ok []) σ H Q) : tNil σ H Q := by
  obtain ⟨F, ev, fi, m⟩ := h
  exact m F [] H fi.refl rfl
theorem tCons_of {f : Ev → R} {fs : Ev → RA} {Q : List V → Hp → Prop} (h : tVA K F0 H0 Ψ (fun ev => consA (f ev) (fs ev)) σ H Q) : tCons (tV K F0 H0 Ψ f) (tVA K F0 H0 Ψ fs) σ H Q := by
  obtain ⟨F, ev, fi, m⟩ := h
  try dsimp only at m
  refine ⟨F, ev, fi, ?_⟩
  cases h1 : f ev with
  | no => rw [h1] at m; exact m
  | ex C => rw [h1] at m; exact m
  | ok k d =>
    rw [h1] at m
    intro F1 x H1 p
    obtain ⟨F1, p, nw⟩ := p.frzK
    refine ⟨F1, ev, fi.later p.st, ?_⟩
    cases h2 : fs ev with
    | no => rw [h2] at m; exact m
    | ex C => rw [h2] at m; exact m
    | ok l =>
      rw [h2] at m
      exact fun F2 vs H2 s v => m F2 (x :: vs) H2 (p.st.trans s) ⟨x, vs, rfl, nw, p.val.later s, v.early p.st.keep⟩

noncomputable def allFz : List (Kd × D) → Option (List D)
  | [] => some []
  | (.fz, d) :: l => (allFz l).map (d :: ·)
  | _ => none
theorem ValA.fz : ∀ {l : List (Kd × D)} {vs : List V} {ds : List D}, ValA K F' H H' l vs → allFz l = some ds → Reps K F' ds vs
  | [], _, _, h, e => by cases e; cases h; exact .nil
  | (k, d) :: l, _, ds, h, e => by
    obtain ⟨v, r, rfl, h2, h3, h4⟩ := h
    cases k with
    | fz =>
      simp only [allFz] at e
      cases q : allFz l with
      | none => rw [q] at e; cases e
      | some ds' => rw [q] at e; cases e; exact .cons h3 (ValA.fz h4 q)
    | _ => cases e
theorem ValA.rds : ∀ {l : List (Kd × D)} {vs : List V}, ValA K F' H H' l vs → Same F' H' → Reps K H' (l.map (·.2)) vs
  | [], _, h, _ => by cases h; exact .nil
  | (k, d) :: l, _, h, s => by
    obtain ⟨v, r, rfl, h2, h3, h4⟩ := h
    exact .cons (h3.rd.rep s) (ValA.rds h4 s)
theorem ValA.length : ∀ {l : List (Kd × D)} {vs : List V}, ValA K F' H H' l vs → l.length = vs.length
  | [], _, h => by cases h; rfl
  | (k, d) :: l, _, h => by obtain ⟨v, r, rfl, h2, h3, h4⟩ := h; simp [ValA.length h4]
noncomputable def LIM : Nat := 1000000
noncomputable def tupR : RA → R
  | .ok l => match allFz l with
    | some ds => if ds.length ≤ LIM then .ok .fz (.tup ds) else .no
    | none => .no
  | .ex C => .ex C
  | .no => .no
noncomputable def lstR : RA → R
  | .ok l => match allFz l with
    | some ds => if ds.length ≤ LIM then .ok .ow (.lst ds) else .no
    | none => .no
  | .ex C => .ex C
  | .no => .no
theorem tTup_of {fs : Ev → RA} {Q : VK} (h : tV K F0 H0 Ψ (fun ev => tupR (fs ev)) σ H Q) : tTup (tVA K F0 H0 Ψ fs) σ H Q := by
  obtain ⟨F, ev, fi, m⟩ := h
  try dsimp only at m
  refine ⟨F, ev, fi, ?_⟩
  cases h1 : fs ev with
  | no => rw [h1] at m; exact m
  | ex C => rw [h1] at m; exact m
  | ok l =>
    rw [h1] at m
    intro F1 vs H1 s va
    simp only [tupR] at m
    cases q : allFz l with
    | none => rw [q] at m; exact m.elim
    | some ds =>
      rw [q] at m
      by_cases hl : ds.length ≤ LIM
      · simp only [hl, if_true] at m
        have rs := va.fz q
        refine ⟨by rw [← rs.length]; exact Nat.le_trans hl sizeLine_ge, fun p hp => ?_⟩
        obtain ⟨F2, p2⟩ := Post.made (K := K) (d := .tup ds) (o := .tup vs) s hp fun F2 up e => by rw [Rep]; exact ⟨p, vs, rfl, e, rs.mono up⟩
        exact m F2 _ _ p2
      · simp only [hl, if_false] at m
theorem tLst_of {fs : Ev → RA} {Q : VK} (h : tV K F0 H0 Ψ (fun ev => lstR (fs ev)) σ H Q) : tLst (tVA K F0 H0 Ψ fs) σ H Q := by
  obtain ⟨F, ev, fi, m⟩ := h
  try dsimp only at m
  refine ⟨F, ev, fi, ?_⟩
  cases h1 : fs ev with
  | no => rw [h1] at m; exact m
  | ex C => rw [h1] at m; exact m
  | ok l =>
    rw [h1] at m
    intro F1 vs H1 s va
    simp only [lstR] at m
    cases q : allFz l with
    | none => rw [q] at m; exact m.elim
    | some ds =>
      rw [q] at m
      by_cases hl : ds.length ≤ LIM
      · simp only [hl, if_true] at m
        have rs := va.fz q
        refine ⟨by rw [← rs.length]; exact Nat.le_trans hl sizeLine_ge, fun p hp => ?_⟩
        exact m F1 _ _ (Post.own s hp fun H2 e => ⟨vs, e, rs⟩)
      · simp only [hl, if_false] at m
noncomputable abbrev GN := List D → Option (Kd × D)
noncomputable def RdA (K : PySem.W.Frag) (F H : Hp) : List D → List V → Prop
  | [], vs => vs = []
  | d :: l, vs => ∃ v r, vs = v :: r ∧ RdV K F H d v ∧ RdA K F H l r
theorem ValA.rda : ∀ {l : List (Kd × D)} {vs : List V}, ValA K F' H H' l vs → RdA K F' H' (l.map (·.2)) vs
  | [], _, h => h
  | (k, d) :: l, _, h => by
    obtain ⟨v, r, rfl, h2, h3, h4⟩ := h
    exact ⟨v, r, rfl, h3.rd, ValA.rda h4⟩
noncomputable def OkCall (K : PySem.W.Frag) (r : List V → Hp → VK → Prop) (g : GN) : Prop := ∀ (F H : Hp) ds vs k d (Q : VK), Same F H → RdA K F H ds vs → g ds = some (k, d) → (∀ F' v H', Post K F H k d F' v H' → Q v H') → r vs H Q
noncomputable def callR (g : GN) : RA → R
  | .ok l => toR (g (l.map (·.2)))
  | .ex C => .ex C
  | .no => .no
theorem tCB_of {r : List V → Hp → VK → Prop} {g : GN} {fs : Ev → RA} {Q : VK} (ho : OkCall K r g) (h : tV K F0 H0 Ψ (fun ev => callR g (fs ev)) σ H Q) : tCB r (tVA K F0 H0 Ψ fs) σ H Q := by
  obtain ⟨F, ev, fi, m⟩ := h
  try dsimp only at m
  refine ⟨F, ev, fi, ?_⟩
  cases h1 : fs ev with
  | no => rw [h1] at m; exact m
  | ex C => rw [h1] at m; exact m
  | ok l =>
    rw [h1] at m
    intro F1 vs H1 s va
    have m : match toR (g (l.map (·.2))) with
        | .ok k d => ∀ F' v H', Post K F H k d F' v H' → Q v H'
        | .ex C => ∀ F' H', Step F0 H0 F' H' → Ψ C H'
        | .no => False := m
    cases e : g (l.map (·.2)) with
    | none => rw [e] at m; exact m.elim
    | some z =>
      obtain ⟨k, d⟩ := z
      rw [e] at m
      exact ho F1 H1 _ vs k d Q s.sub va.rda e fun F3 v H3 p3 => m F3 v H3 ⟨s.trans p3.st, p3.val.early s.keep⟩

theorem FlowTo.mono {E : Ends} {r : Fl} (h : FlowTo K F0 H0 Ψ F E r) (s : Same F F') : FlowTo K F0 H0 Ψ F' E r := by
  cases r with
  | nx ev => exact fun F2 H2 σ2 s2 fi => h F2 H2 σ2 (s.trans s2) fi
  | bk ev => exact fun F2 H2 σ2 s2 fi => h F2 H2 σ2 (s.trans s2) fi
  | ct ev => exact fun F2 H2 σ2 s2 fi => h F2 H2 σ2 (s.trans s2) fi
  | rt k d => exact h
  | ex C => exact h
  | no => exact h
noncomputable def seqG (g h : Ev → Fl) (ev : Ev) : Fl := match g ev with
  | .nx ev' => h ev'
  | r => r
theorem tSeq_of {g h : Ev → Fl} {E : Ends} (q : tSv K F0 H0 Ψ (seqG g h) E σ H) : tSeq (tSv K F0 H0 Ψ g) (tSv K F0 H0 Ψ h) E σ H := by
  obtain ⟨F, ev, fi, m⟩ := q
  refine ⟨F, ev, fi, ?_⟩
  unfold seqG at m
  cases h1 : g ev with
  | nx ev' => rw [h1] at m; exact fun F' H' σ' s fi' => ⟨F', ev', fi', m.mono s⟩
  | _ => rw [h1] at m; exact m
theorem tNext_of {E : Ends} (q : tSv K F0 H0 Ψ .nx E σ H) : tNext E σ H := by
  obtain ⟨F, ev, fi, m⟩ := q
  exact m F H σ (.refl _) fi
theorem tCont_of {E : Ends} (q : tSv K F0 H0 Ψ .ct E σ H) : tCont E σ H := by
  obtain ⟨F, ev, fi, m⟩ := q
  exact m F H σ (.refl _) fi
noncomputable def retG (f : Ev → R) (ev : Ev) : Fl := match f ev with
  | .ok .bo _ => .no
  | .ok k d => .rt k d
  | .ex C => .ex C
  | .no => .no
theorem tRet_of {f : Ev → R} {E : Ends} (q : tSv K F0 H0 Ψ (retG f) E σ H) : tRet (tV K F0 H0 Ψ f) E σ H := by
  obtain ⟨F, ev, fi, m⟩ := q
  refine ⟨F, ev, fi, ?_⟩
  unfold retG at m
  cases h1 : f ev with
  | no => rw [h1] at m; exact m
  | ex C => rw [h1] at m; exact m
  | ok k d =>
    rw [h1] at m
    intro F1 x H1 p
    cases k with
    | bo => exact m.elim
    | fz => exact m F1 x H1 ⟨fi.st.trans p.st, p.val.early fi.st.keep⟩
    | ow => exact m F1 x H1 ⟨fi.st.trans p.st, p.val.early fi.st.keep⟩
noncomputable def retVarG (i : Nat) (ev : Ev) : Fl := match ev[i]? with
  | some (some (.fz, d)) => .rt .fz d
  | some (some (.ow, d)) => .rt .ow d
  | _ => .no
theorem tRetVar_of {i : Nat} {E : Ends} (q : tSv K F0 H0 Ψ (retVarG i) E σ H) : tRet (tVar i) E σ H := by
  obtain ⟨F, ev, fi, m⟩ := q
  unfold retVarG at m
  split at m
  · rename_i d e
    obtain ⟨_, v, e1, hv⟩ := fi.at_ _ _ _ e
    exact ⟨v, e1, m F v H ⟨fi.st, hv⟩⟩
  · rename_i d e
    obtain ⟨_, v, e1, hv⟩ := fi.at_ _ _ _ e
    exact ⟨v, e1, m F v H ⟨fi.st, hv⟩⟩
  · exact m.elim
noncomputable def ifG (c : Ev → R) (g h : Ev → Fl) (ev : Ev) : Fl := match c ev with
  | .ok _ (.bl b) => if b then g ev else h ev
  | .ex C => .ex C
  | _ => .no
theorem tIfS_of {c : Ev → R} {g h : Ev → Fl} {E : Ends} (q : tSv K F0 H0 Ψ (ifG c g h) E σ H) : tIfS (tVT K F0 H0 Ψ c) (tSv K F0 H0 Ψ g) (tSv K F0 H0 Ψ h) E σ H := by
  obtain ⟨F, ev, fi, m⟩ := q
  refine ⟨F, ev, fi, ?_⟩
  unfold ifG at m
  cases h1 : c ev with
  | no => rw [h1] at m; exact m
  | ex C => rw [h1] at m; exact m
  | ok k d =>
    rw [h1] at m
    cases d with
    | bl b =>
      intro F1 H1 p
      cases b with
      | true => rw [if_pos rfl]; exact ⟨F1, ev, fi.later p, FlowTo.mono m p.up⟩
      | false => rw [if_neg Bool.false_ne_true]; exact ⟨F1, ev, fi.later p, FlowTo.mono m p.up⟩
    | _ => exact m.elim

noncomputable abbrev B1 := D → Ev → Option Ev
noncomputable abbrev BN := List D → Ev → Option Ev
noncomputable def gV (K : PySem.W.Frag) (F0 H0 : Hp) (b : B1) : TG := fun v σ H Q => ∃ F ev d ev', FI K F0 H0 F H ev σ ∧ Rep K F d v ∧ b d ev = some ev' ∧ ∀ H' σ', H' = H → FI K F0 H0 F H ev' σ' → Q σ' H'
noncomputable def gVs (K : PySem.W.Frag) (F0 H0 : Hp) (b : BN) : TGs := fun vs σ H Q => ∃ F ev ds ev', FI K F0 H0 F H ev σ ∧ Reps K F ds vs ∧ b ds ev = some ev' ∧ ∀ H' σ', H' = H → FI K F0 H0 F H ev' σ' → Q σ' H'
noncomputable def bName (i : Nat) : B1 := fun d ev => some (ev.set i (some (.fz, d)))
theorem gName_of {i : Nat} {v : V} {Q : St → Hp → Prop} (q : gV K F0 H0 (bName i) v σ H Q) : gName i v σ H Q := by
  obtain ⟨F, ev, d, ev', fi, r, e, m⟩ := q
  cases e
  exact m H _ rfl (fi.set ⟨fi.refl, r⟩ (by simp))
noncomputable def bNil : BN := fun ds ev => match ds with
  | [] => some ev
  | _ => none
noncomputable def bCons (b : B1) (c : BN) : BN := fun ds ev => match ds with
  | d :: r => (b d ev).bind (c r)
  | [] => none
theorem gNil_of {vs : List V} {Q : St → Hp → Prop} (q : gVs K F0 H0 bNil vs σ H Q) : gNil vs σ H Q := by
  obtain ⟨F, ev, ds, ev', fi, r, e, m⟩ := q
  cases ds with
  | nil => cases e; exact ⟨r.unnil, m H σ rfl fi⟩
  | cons d ds => cases e
theorem gCons_of {b : B1} {c : BN} {vs : List V} {Q : St → Hp → Prop} (q : gVs K F0 H0 (bCons b c) vs σ H Q) : gCons (gV K F0 H0 b) (gVs K F0 H0 c) vs σ H Q := by
  obtain ⟨F, ev, ds, ev', fi, r, e, m⟩ := q
  cases ds with
  | nil => cases e
  | cons d ds =>
    obtain ⟨v, t, rfl, h1, h2⟩ := r.uncons
    refine ⟨v, t, rfl, ?_⟩
    simp only [bCons] at e
    cases q1 : b d ev with
    | none => rw [q1] at e; cases e
    | some ev1 =>
      rw [q1] at e
      refine ⟨F, ev, d, ev1, fi, h1, q1, fun H' σ' hH fi' => ?_⟩
      subst hH
      exact ⟨F, ev1, ds, ev', fi', h2, e, m⟩
noncomputable def bTup (n : Nat) (c : BN) : B1 := fun d ev => match d with
  | .tup ds => if ds.length = n then c ds ev else none
  | _ => none
theorem gTup_of {n : Nat} {c : BN} {v : V} {Q : St → Hp → Prop} (q : gV K F0 H0 (bTup n c) v σ H Q) : gTup K n (gVs K F0 H0 c) v σ H Q := by
  obtain ⟨F, ev, d, ev', fi, r, e, m⟩ := q
  cases d with
  | tup ds =>
    rw [Rep] at r
    obtain ⟨a, vs, h1, h2, h3⟩ := r
    simp only [bTup] at e
    by_cases hn : ds.length = n
    · rw [if_pos hn] at e
      exact ⟨a, vs, h1, SqT.of (fi.sub _ _ h2), by rw [← h3.length]; exact hn, F, ev, ds, ev', fi, h3, e, m⟩
    · rw [if_neg hn] at e; cases e
  | _ => cases e
noncomputable def setG (i : Nat) (f : Ev → R) (ev : Ev) : Fl := match f ev with
  | .ok .bo _ => .no
  | .ok k d => .nx (ev.set i (some (k, d)))
  | .ex C => .ex C
  | .no => .no
theorem tSet_of {i : Nat} {f : Ev → R} {E : Ends} (q : tSv K F0 H0 Ψ (setG i f) E σ H) : tAsg (tV K F0 H0 Ψ f) (gName i) E σ H := by
  obtain ⟨F, ev, fi, m⟩ := q
  refine ⟨F, ev, fi, ?_⟩
  unfold setG at m
  cases h1 : f ev with
  | no => rw [h1] at m; exact m
  | ex C => rw [h1] at m; exact m
  | ok k d =>
    rw [h1] at m
    intro F1 x H1 p
    cases k with
    | bo => exact m.elim
    | fz => exact m F1 H1 _ p.st.up (fi.set p (by simp))
    | ow => exact m F1 H1 _ p.st.up (fi.set p (by simp))
noncomputable def frzEv (i : Nat) (ev : Ev) : Ev := match ev[i]? with
  | some (some (.ow, d)) => ev.set i (some (.fz, d))
  | _ => ev
theorem FI.frz (i : Nat) (f : FI K F0 H0 F H ev σ) : ∃ F', Same F F' ∧ FI K F0 H0 F' H (frzEv i ev) σ := by
  unfold frzEv
  split
  · rename_i d e
    obtain ⟨_, v, ev1, hv⟩ := f.at_ i _ _ e
    obtain ⟨a, rfl, h1, h2, h3⟩ := hv
    obtain ⟨o, ho⟩ := h3.some
    have hi : i < σ.length := (List.getElem?_eq_some_iff.mp ev1).1
    have hie : i < ev.length := by rw [f.len]; exact hi
    have up : Same F (upd F a o) := fun b u e => by
      rw [upd_ne]; exact e
      rintro rfl; rw [h2] at e; cases e
    have ne : ∀ {m : Nat} {x : D}, (ev.set i (some (Kd.fz, d)))[m]? = some (some (.ow, x)) → i ≠ m ∧ ev[m]? = some (some (.ow, x)) := fun {m x} q => by
      by_cases hm : i = m
      · subst hm; rw [List.getElem?_set_self hie] at q; cases q
      · rw [List.getElem?_set_ne hm] at q; exact ⟨hm, q⟩
    refine ⟨upd F a o, up, ⟨f.st.up.trans up, fun b u q => ?_, f.st.keep, fun b u q => ?_⟩, fun j k d' q => ?_, fun j l d1 d2 hjl e1 e2 => ?_, by simpa using f.len⟩
    · by_cases hb : b = a
      · subst hb; rw [upd_same] at q; cases q; exact ho
      · rw [upd_ne hb] at q; exact f.sub _ _ q
    · by_cases hb : b = a
      · subst hb; exact .inr h1
      · rw [upd_ne hb] at q; exact f.st.new _ _ q
    · by_cases hj : i = j
      · subst hj
        rw [List.getElem?_set_self hie] at q
        cases q
        exact ⟨by simp, _, ev1, h3.rep up fun o' e => by rw [ho] at e; cases e; exact upd_same⟩
      · rw [List.getElem?_set_ne hj] at q
        obtain ⟨n, u, e3, hu⟩ := f.at_ j k d' q
        refine ⟨n, u, e3, ?_⟩
        cases k with
        | bo => exact absurd rfl n
        | fz => exact Rep.mono up hu
        | ow =>
          obtain ⟨b, rfl, g1, g2, g3⟩ := hu
          have hba : b ≠ a := by
            rintro rfl
            exact f.apart i j d d' hj e q (by rw [ev1, e3])
          exact ⟨b, rfl, g1, by rw [upd_ne hba]; exact g2, g3.mono up fun o e => e⟩
    · exact f.apart j l d1 d2 hjl (ne e1).2 (ne e2).2
  · exact ⟨F, .refl _, f⟩
end
end L3
set_option linter.all false
set_option maxRecDepth 100000
namespace L3
open PySem L2
inductive RI where | ok (ds : List D) | ex (C : Addr) | no
structure Yields (K : PySem.W.Frag) (F : Hp) (J : It) (ds : List D) : Prop where
  go : ∀ (i : Nat) H, Same F H → i < ds.length → J.go i H
  stop : ∀ (i : Nat) H, Same F H → ds.length ≤ i → J.stop i H
  yld : ∀ (i : Nat) F1 H x H', Same F F1 → Same F1 H → i < ds.length → J.yld i H x H' → ∃ F2 d, Step F1 H F2 H' ∧ ds[i]? = some d ∧ Rep K F2 d x
noncomputable def tVI (K : PySem.W.Frag) (F0 H0 : Hp) (Ψ : Psi) (f : Ev → RI) : TI := fun σ H R => ∃ F ev, FI K F0 H0 F H ev σ ∧ match f ev with
  | .ok ds => ∀ F' H' J, Step F H F' H' → Yields K F' J ds → R J H'
  | .ex C => ∀ F' H', Step F0 H0 F' H' → Ψ C H'
  | .no => False
noncomputable def VI (X : Cx) (F0 H0 : Hp) (Ψ : Psi) (tg e : Expr) (f : Ev → RI) : Prop := PI X tg e (tVI X.K F0 H0 Ψ f)
noncomputable def forE (b : B1) (body : Ev → Fl) : List D → Ev → Fl
  | [], ev => .nx ev
  | d :: ds, ev => match b d ev with
    | none => .no
    | some ev1 => match body ev1 with
      | .nx ev2 => forE b body ds ev2
      | .ct ev2 => forE b body ds ev2
      | .bk ev2 => .nx ev2
      | r => r
noncomputable def forG (f : Ev → RI) (b : B1) (body : Ev → Fl) (ev : Ev) : Fl := match f ev with
  | .ok ds => forE b body ds ev
  | .ex C => .ex C
  | .no => .no
section
variable {X : Cx} {K : PySem.W.Frag} {F0 H0 F H F' H' : Hp} {Ψ : Psi} {σ : St} {ev : Ev}
theorem tFor_of {f : Ev → RI} {b : B1} {body : Ev → Fl} {E : Ends} (q : tSv K F0 H0 Ψ (forG f b body) E σ H) : tFor (tVI K F0 H0 Ψ f) (gV K F0 H0 b) (tSv K F0 H0 Ψ body) E σ H := by
  obtain ⟨F, ev, fi, m⟩ := q
  refine ⟨F, ev, fi, ?_⟩
  unfold forG at m
  cases h1 : f ev with
  | no => rw [h1] at m; exact m
  | ex C => rw [h1] at m; exact m
  | ok ds =>
    rw [h1] at m
    intro F1 H1 J s y
    refine ⟨fun i m σ H => m = ds.length - i ∧ i ≤ ds.length ∧ ∃ F ev, FI K F0 H0 F H ev σ ∧ Same F1 F ∧ FlowTo K F0 H0 Ψ F E (forE b body (ds.drop i) ev),
      ⟨ds.length, by simp, Nat.zero_le _, F1, ev, fi.later s, .refl _, FlowTo.mono m s.up⟩, ?_⟩
    rintro i m σ H ⟨rfl, hi, F, ev, fi, up, fl⟩
    have sH : Same F1 H := up.trans fi.sub
    by_cases hlt : i < ds.length
    · refine .inr ⟨y.go i H sH hlt, fun σ' H' => ∃ F ev, FI K F0 H0 F H' ev σ' ∧ Same F1 F ∧ FlowTo K F0 H0 Ψ F E (forE b body (ds.drop (i + 1)) ev), fun σ' H' n => ⟨ds.length - (i + 1), by omega, rfl, hlt, n⟩, fun x H' yl => ?_⟩
      obtain ⟨F2, d, s2, ed, r⟩ := y.yld i F H x H' up fi.sub hlt yl
      have e : ds.drop i = d :: ds.drop (i + 1) := by
        obtain ⟨h, e'⟩ := List.getElem?_eq_some_iff.mp ed
        rw [← e']
        exact List.drop_eq_getElem_cons h
      rw [e] at fl
      simp only [forE] at fl
      cases q1 : b d ev with
      | none => rw [q1] at fl; exact fl.elim
      | some ev1 =>
        rw [q1] at fl
        dsimp only at fl
        refine ⟨F2, ev, d, ev1, fi.later s2, r, q1, fun H'' σ' hH fi' => ?_⟩
        subst hH
        refine ⟨F2, ev1, fi', ?_⟩
        have fl2 := FlowTo.mono fl s2.up
        cases q2 : body ev1 with
        | nx ev2 => rw [q2] at fl2; exact fun F' H' σ' s' fi'' => ⟨F', ev2, fi'', (up.trans s2.up).trans s', FlowTo.mono fl2 s'⟩
        | ct ev2 => rw [q2] at fl2; exact fun F' H' σ' s' fi'' => ⟨F', ev2, fi'', (up.trans s2.up).trans s', FlowTo.mono fl2 s'⟩
        | bk ev2 => rw [q2] at fl2; exact fl2
        | rt k d => rw [q2] at fl2; exact fl2
        | ex C => rw [q2] at fl2; exact fl2
        | no => rw [q2] at fl2; exact fl2
    · have e : i = ds.length := by omega
      subst e
      rw [List.drop_length] at fl
      exact .inl ⟨y.stop _ H sH (Nat.le_refl _), fl F H σ (.refl _) fi⟩

noncomputable def itR : R → RI
  | .ok .bo _ => .no
  | .ok _ (.lst ds) => .ok ds
  | .ok _ (.scr ds) => .ok ds
  | .ex C => .ex C
  | _ => .no
noncomputable def itT : R → RI
  | .ok .fz (.tup ds) => .ok ds
  | .ex C => .ex C
  | _ => .no
theorem yields_list {a : Addr} {vs : List V} {ds : List D} (h : SqL K F a vs) (r : Reps K F ds vs) : Yields K F (Itl K a) ds where
  go := fun i H s hi => ⟨vs, vs[i]'(by rw [← r.length]; exact hi), Same.seq s h, by simp [← r.length, hi]⟩
  stop := fun i H s hi => ⟨vs, Same.seq s h, by rw [← r.length]; exact hi⟩
  yld := fun i F1 H x H' s1 s2 hi y => by
    obtain ⟨rfl, y⟩ := y
    have e := y vs (Same.seq (s1.trans s2) h)
    obtain ⟨d, ed⟩ : ∃ d, ds[i]? = some d := ⟨ds[i], by simp [hi]⟩
    obtain ⟨v, ev, rv⟩ := r.get ed
    rw [e] at ev
    cases ev
    exact ⟨F1, d, .refl s2, ed, rv.mono s1⟩
theorem yields_tup {a : Addr} {vs : List V} {ds : List D} (h : SqT K F a vs) (r : Reps K F ds vs) : Yields K F (Itt K a) ds where
  go := fun i H s hi => ⟨vs, vs[i]'(by rw [← r.length]; exact hi), Same.seqT s h, by simp [← r.length, hi]⟩
  stop := fun i H s hi => ⟨vs, Same.seqT s h, by rw [← r.length]; exact hi⟩
  yld := fun i F1 H x H' s1 s2 hi y => by
    obtain ⟨rfl, y⟩ := y
    have e := y vs (Same.seqT (s1.trans s2) h)
    obtain ⟨d, ed⟩ : ∃ d, ds[i]? = some d := ⟨ds[i], by simp [hi]⟩
    obtain ⟨v, ev, rv⟩ := r.get ed
    rw [e] at ev
    cases ev
    exact ⟨F1, d, .refl s2, ed, rv.mono s1⟩
noncomputable def rangeD (lo : Int) (n : Nat) : List D := (List.range n).map fun (i : Nat) => .int (lo + i)
theorem yields_range {lo : Int} {n : Nat} : Yields K F (Itr lo n) (rangeD lo n) where
  go := fun i H s hi => by show i < n; simpa [rangeD] using hi
  stop := fun i H s hi => by show n ≤ i; simpa [rangeD] using hi
  yld := fun i F1 H x H' s1 s2 hi y => by
    obtain ⟨rfl, rfl⟩ := y
    have hi : i < n := by simpa [rangeD] using hi
    exact ⟨F1, .int (lo + i), .refl s2, by simp [rangeD, hi], by rw [Rep]⟩
theorem iList_of {f : Ev → R} {Q : It → Hp → Prop} (h : tVI K F0 H0 Ψ (fun ev => itR (f ev)) σ H Q) : iList K (tV K F0 H0 Ψ f) σ H Q := by
  obtain ⟨F, ev, fi, m⟩ := h
  dsimp only at m
  refine ⟨F, ev, fi, ?_⟩
  cases h1 : f ev with
  | no => rw [h1] at m; exact m
  | ex C => rw [h1] at m; exact m
  | ok k d =>
    rw [h1] at m
    intro F1 v H1 p
    have go : ∀ F2, Post K F H .fz d F2 v H1 → (∀ ds, itR (.ok .fz d) = .ok ds → ∀ F' H' J, Step F H F' H' → Yields K F' J ds → Q J H') → (∀ ds, d = .lst ds ∨ d = .scr ds → ∃ a, v = .ref a ∧ (∃ xs, SqL K H1 a xs) ∧ Q (Itl K a) H1) := fun F2 p2 m ds hd => by
      rcases hd with rfl | rfl
      · have r := p2.val
        rw [Val, Rep] at r
        obtain ⟨a, vs, e1, e2, e3⟩ := r
        exact ⟨a, e1, ⟨vs, SqL.of (p2.st.sub _ _ e2)⟩, m ds rfl F2 H1 _ p2.st (yields_list (SqL.of e2) e3)⟩
      · have r := p2.val
        rw [Val, Rep] at r
        obtain ⟨a, vs, e1, e2, e3⟩ := r
        exact ⟨a, e1, ⟨vs, Same.seq p2.st.sub e2⟩, m ds rfl F2 H1 _ p2.st (yields_list e2 e3)⟩
    cases k with
    | bo => cases d <;> exact m.elim
    | fz =>
      cases d with
      | lst ds => exact go F1 p (fun ds' e => by cases e; exact m) ds (.inl rfl)
      | scr ds => exact go F1 p (fun ds' e => by cases e; exact m) ds (.inr rfl)
      | _ => exact m.elim
    | ow =>
      obtain ⟨F2, p2⟩ := p.frz
      cases d with
      | lst ds => exact go F2 p2 (fun ds' e => by cases e; exact m) ds (.inl rfl)
      | scr ds => exact go F2 p2 (fun ds' e => by cases e; exact m) ds (.inr rfl)
      | _ => exact m.elim
theorem iTup_of {f : Ev → R} {Q : It → Hp → Prop} (h : tVI K F0 H0 Ψ (fun ev => itT (f ev)) σ H Q) : iTup K (tV K F0 H0 Ψ f) σ H Q := by
  obtain ⟨F, ev, fi, m⟩ := h
  dsimp only at m
  refine ⟨F, ev, fi, ?_⟩
  cases h1 : f ev with
  | no => rw [h1] at m; exact m
  | ex C => rw [h1] at m; exact m
  | ok k d =>
    rw [h1] at m
    intro F1 v H1 p
    cases k with
    | bo => cases d <;> exact m.elim
    | ow => cases d <;> exact m.elim
    | fz =>
      cases d with
      | tup ds =>
        have r := p.val
        rw [Val, Rep] at r
        obtain ⟨a, vs, e1, e2, e3⟩ := r
        exact ⟨a, e1, ⟨vs, SqT.of (p.st.sub _ _ e2)⟩, m F1 H1 _ p.st (yields_tup (SqT.of e2) e3)⟩
      | _ => exact m.elim
noncomputable def rng1R : RA → RI
  | .ok [(_, .int j)] => if -(2 ^ 62) ≤ j ∧ j < 2 ^ 62 then .ok (rangeD 0 j.toNat) else .no
  | .ex C => .ex C
  | _ => .no
theorem iRng1_of {f : Ev → RA} {Q : It → Hp → Prop} (h : tVI K F0 H0 Ψ (fun ev => rng1R (f ev)) σ H Q) : iRng1 (tVA K F0 H0 Ψ f) σ H Q := by
  obtain ⟨F, ev, fi, m⟩ := h
  dsimp only at m
  refine ⟨F, ev, fi, ?_⟩
  unfold rng1R at m
  cases h1 : f ev with
  | no => rw [h1] at m; exact m
  | ex C => rw [h1] at m; exact m
  | ok l =>
    rw [h1] at m
    intro F1 vs H1 s va
    split at m
    · rename_i ds hm
      split at hm
      · rename_i k j he
        cases he
        split at hm
        · rename_i hb
          cases hm
          obtain ⟨v, r, rfl, _, hv, hr⟩ := va
          obtain rfl : r = [] := hr
          exact ⟨j, by rw [hv.rd.int], hb.1, hb.2, m F1 H1 _ s yields_range⟩
        · cases hm
      · rename_i he; cases he
      · cases hm
    · rename_i C hm
      split at hm
      · split at hm <;> cases hm
      · rename_i he; cases he
      · cases hm
    · exact m.elim
theorem FI.mut {i : Nat} {d d' : D} {a : Addr} {o : HO} (f : FI K F0 H0 F H ev σ) (e : ev[i]? = some (some (.ow, d))) (hs : σ[i]? = some (some (.ref a))) (c : ∀ H2, H2 a = some o → Cell K F H2 a d') :
    FI K F0 H0 F (upd H a o) (ev.set i (some (.ow, d'))) σ := by
  obtain ⟨_, v, e1, b, hb, h1, h2, h3⟩ := f.at_ i _ _ e
  rw [hs] at e1
  have : V.ref a = v := by simpa using e1
  subst this
  cases hb
  have hie : i < ev.length := (List.getElem?_eq_some_iff.mp e).1
  have ne : ∀ {G : Hp}, G a = none → Same G H → Same G (upd H a o) := fun {G} n s b u q => by
    rw [upd_ne]; exact s b u q
    rintro rfl; rw [n] at q; cases q
  have own : ∀ {m : Nat} {x : D}, (ev.set i (some (Kd.ow, d')))[m]? = some (some (.ow, x)) → ∃ y, ev[m]? = some (some (.ow, y)) := fun {m x} q => by
    by_cases hm : i = m
    · subst hm; exact ⟨d, e⟩
    · rw [List.getElem?_set_ne hm] at q; exact ⟨x, q⟩
  refine ⟨⟨f.st.up, ne h2 f.sub, ne h1 f.st.keep, f.st.new⟩, fun j k d2 q => ?_, fun j l d1 d2 hjl e1 e2 => ?_, by simpa using f.len⟩
  · by_cases hj : i = j
    · subst hj
      rw [List.getElem?_set_self hie] at q
      cases q
      exact ⟨by simp, _, hs, a, rfl, h1, h2, c _ upd_same⟩
    · rw [List.getElem?_set_ne hj] at q
      obtain ⟨n, u, e3, hu⟩ := f.at_ j k d2 q
      refine ⟨n, u, e3, ?_⟩
      cases k with
      | bo => exact absurd rfl n
      | fz => exact hu
      | ow =>
        obtain ⟨b, rfl, g1, g2, g3⟩ := hu
        have hba : b ≠ a := by
          rintro rfl
          exact f.apart i j d d2 hj e q (by rw [hs, e3])
        exact ⟨b, rfl, g1, g2, g3.mono (.refl _) fun o' z => by rw [upd_ne hba]; exact z⟩
  · obtain ⟨y1, z1⟩ := own e1
    obtain ⟨y2, z2⟩ := own e2
    exact f.apart j l y1 y2 hjl z1 z2
end
end L3
set_option Elab.async false
set_option linter.all false
set_option maxRecDepth 100000
namespace L3
open PySem L2
noncomputable def addD : G2
  | .int i, .int j => some (.fz, .int (i + j))
  | .lst xs, .lst ys => if xs.length + ys.length ≤ LIM then some (.ow, .lst (xs ++ ys)) else none
  | .str x, .str y => if x.length + y.length ≤ LIM then some (.fz, .str (x ++ y)) else none
  | _, _ => none
noncomputable def subD : G2
  | .int i, .int j => some (.fz, .int (i - j))
  | _, _ => none
noncomputable def mulL : G2
  | .int i, .int j => if (-(2 ^ 64) < i ∧ i < 2 ^ 64) ∨ (-(2 ^ 64) < j ∧ j < 2 ^ 64) then some (.fz, .int (i * j)) else none
  | .lst xs, .int k => if -(2 ^ 63) ≤ k ∧ k < 2 ^ 63 ∧ xs.length * k.toNat ≤ LIM then some (.ow, .lst (List.replicate k.toNat xs).flatten) else none
  | _, _ => none
noncomputable def fdivD : G2
  | .int i, .int j => if 0 < j ∧ j < 2 ^ 200 then some (.fz, .int (i / j)) else none
  | _, _ => none
noncomputable def modD : G2
  | .int i, .int j => if 0 < j then some (.fz, .int (i % j)) else none
  | _, _ => none
noncomputable def powD : G2
  | .int i, .int j => if 0 ≤ j ∧ j ≤ 1000000 ∧ i.natAbs < 2 ^ 64 then some (.fz, .int (i ^ j.toNat)) else none
  | _, _ => none
noncomputable def ltD : G2
  | .int i, .int j => some (.fz, .bl (decide (i < j)))
  | _, _ => none
noncomputable def leD : G2
  | .int i, .int j => some (.fz, .bl (decide (i ≤ j)))
  | _, _ => none
noncomputable def gtD : G2
  | .int i, .int j => some (.fz, .bl (decide (j < i)))
  | _, _ => none
noncomputable def isND : G2
  | .non, .non => some (.fz, .bl true)
  | _, .non => some (.fz, .bl false)
  | _, _ => none
noncomputable def notND : G2
  | .non, .non => some (.fz, .bl false)
  | _, .non => some (.fz, .bl true)
  | _, _ => none
noncomputable def idxL : G2
  | .lst xs, .int i => (atI xs i).map fun d => (.fz, d)
  | .scr xs, .int i => (atI xs i).map fun d => (.fz, d)
  | .tup xs, .int i => (atI xs i).map fun d => (.fz, d)
  | _, _ => none

section
variable {K : PySem.W.Frag} {X : Cx}
noncomputable abbrev rAdd3 : R2 := fun x y H Q => rI0 (fun i j => .int (i + j)) x y H Q ∨ (rCat x y H Q ∨ ∃ i j, x = .str i ∧ y = .str j ∧ i.length + j.length ≤ sizeLine ∧ Q (.str (i ++ j)) H)
theorem op_add3 : OpR X (binaryOp .Add) rAdd3 := op_add.or (op_cat.or op_add_str)
theorem lim_le {n : Nat} (h : n ≤ LIM) : n ≤ sizeLine := Nat.le_trans h sizeLine_ge
theorem ok_add : OkOp K rAdd3 addD := by
  intro F H dx dy x y k d Q s rx ry e q
  unfold addD at e
  split at e <;> first | (cases e; done) | skip
  · rename_i i j
    cases e
    exact .inl ⟨i, j, rx.int, ry.int, q F _ H (.pure (.refl s) (by rw [Rep]))⟩
  rotate_left
  · rename_i i j
    split at e
    · rename_i hl
      cases e
      exact .inr (.inr ⟨i, j, rx.str, ry.str, lim_le hl, q F _ H (.pure (.refl s) (by rw [Rep]))⟩)
    · cases e
  · rename_i xs ys
    split at e
    · rename_i hl
      cases e
      obtain ⟨a, vs, rfl, h1, h2⟩ := rx.lst s
      obtain ⟨b, us, rfl, g1, g2⟩ := ry.lst s
      refine .inr (.inl ⟨a, b, vs, us, rfl, rfl, h1, g1, by rw [← h2.length, ← g2.length]; exact lim_le hl, fun p hp => ?_⟩)
      exact q F _ _ (Post.own (.refl s) hp fun H2 e => ⟨_, e, h2.app g2⟩)
    · cases e
theorem ok_sub : OkOp K (rI0 fun i j => .int (i - j)) subD := by
  intro F H dx dy x y k d Q s rx ry e q
  unfold subD at e
  split at e <;> first | (cases e; done) | skip
  rename_i i j
  cases e
  exact ⟨i, j, rx.int, ry.int, q F _ H (.pure (.refl s) (by rw [Rep]))⟩
noncomputable abbrev rMul2 : R2 := fun x y H Q => rI CMul (fun i j => .int (i * j)) x y H Q ∨ rRep x y H Q
theorem op_mul2 : OpR X (binaryOp .Mult) rMul2 := op_mul.or op_rep
theorem ok_mulL : OkOp K rMul2 mulL := by
  intro F H dx dy x y k d Q s rx ry e q
  unfold mulL at e
  split at e <;> first | (cases e; done) | skip
  · rename_i i j
    split at e
    · rename_i hc
      cases e
      exact .inl ⟨i, j, rx.int, ry.int, hc, q F _ H (.pure (.refl s) (by rw [Rep]))⟩
    · cases e
  · rename_i xs j
    split at e
    · rename_i hc
      cases e
      obtain ⟨a, vs, rfl, h1, h2⟩ := rx.lst s
      refine .inr ⟨a, j, vs, rfl, ry.int, h1, hc.1, hc.2.1, by rw [← h2.length]; exact lim_le hc.2.2, fun p hp => ?_⟩
      exact q F _ _ (Post.own (.refl s) hp fun H2 e => ⟨_, e, h2.rep _⟩)
    · cases e
noncomputable def CDivW (i j : Int) : Prop := 0 < j ∧ j < 2 ^ 200
theorem op_fdivW {X : Cx} : OpR X (binaryOp .FloorDiv) (rI CDivW fun i j => .int (i / j)) := opI fun i j _ _ _ _ _ hc q => by
  have h1 : (0 : Int) < j := hc.1
  have h2 : j < 2 ^ 200 := hc.2
  refine PyProof.Rows.floordiv_int (by omega) (by rw [Int.fdiv_eq_ediv_of_nonneg i (by omega)]; exact q) (.inl (PyProof.noPylong_of_log2 ?_))
  have h3 : j.natAbs < 2 ^ 200 := by omega
  have h4 : j.natAbs.log2 < 200 := (Nat.log2_lt (by omega)).2 h3
  omega
theorem ok_fdiv : OkOp K (rI CDivW fun i j => .int (i / j)) fdivD := by
  intro F H dx dy x y k d Q s rx ry e q
  unfold fdivD at e
  split at e <;> first | (cases e; done) | skip
  rename_i i j
  split at e
  · rename_i hc
    cases e
    exact ⟨i, j, rx.int, ry.int, hc, q F _ H (.pure (.refl s) (by rw [Rep]))⟩
  · cases e
theorem ok_mod : OkOp K (rI (fun _ j => 0 < j) fun i j => .int (i % j)) modD := by
  intro F H dx dy x y k d Q s rx ry e q
  unfold modD at e
  split at e <;> first | (cases e; done) | skip
  rename_i i j
  split at e
  · rename_i hc
    cases e
    exact ⟨i, j, rx.int, ry.int, hc, q F _ H (.pure (.refl s) (by rw [Rep]))⟩
  · cases e
theorem ok_pow : OkOp K (rI CPow fun i j => .int (i ^ j.toNat)) powD := by
  intro F H dx dy x y k d Q s rx ry e q
  unfold powD at e
  split at e <;> first | (cases e; done) | skip
  rename_i i j
  split at e
  · rename_i hc
    cases e
    exact ⟨i, j, rx.int, ry.int, hc, q F _ H (.pure (.refl s) (by rw [Rep]))⟩
  · cases e
theorem ok_lt : OkOp K (rI0 fun i j => .bl (decide (i < j))) ltD := by
  intro F H dx dy x y k d Q s rx ry e q
  unfold ltD at e
  split at e <;> first | (cases e; done) | skip
  rename_i i j
  cases e
  exact ⟨i, j, rx.int, ry.int, q F _ H (.pure (.refl s) (by rw [Rep]))⟩
theorem ok_le : OkOp K (rI0 fun i j => .bl (decide (i ≤ j))) leD := by
  intro F H dx dy x y k d Q s rx ry e q
  unfold leD at e
  split at e <;> first | (cases e; done) | skip
  rename_i i j
  cases e
  exact ⟨i, j, rx.int, ry.int, q F _ H (.pure (.refl s) (by rw [Rep]))⟩
theorem ok_gt : OkOp K (rI0 fun i j => .bl (decide (j < i))) gtD := by
  intro F H dx dy x y k d Q s rx ry e q
  unfold gtD at e
  split at e <;> first | (cases e; done) | skip
  rename_i i j
  cases e
  exact ⟨i, j, rx.int, ry.int, q F _ H (.pure (.refl s) (by rw [Rep]))⟩
theorem RdV.isn {F H : Hp} {d : D} {v : V} (h : RdV K F H d v) : decide (v = .non) = (match d with | .non => true | _ => false) := by
  rcases h with h | ⟨a, rfl, h⟩
  · cases d <;> rw [Rep] at h
    all_goals first
      | (subst h; rfl)
      | (obtain ⟨a, vs, rfl, _⟩ := h; rfl)
      | (obtain ⟨a, C, dx, vs, rfl, _⟩ := h; rfl)
  · cases d <;> first | rfl | exact h.elim
theorem ok_isN : OkOp K (fun x y H Q => y = .non ∧ Q (.bl (decide (x = .non))) H) isND := by
  intro F H dx dy x y k d Q s rx ry e q
  have hn := rx.isn
  unfold isND at e
  split at e
  · cases e; exact ⟨ry.non, by rw [hn]; exact q F _ H (.pure (.refl s) (by rw [Rep]))⟩
  · rename_i h
    cases e
    refine ⟨ry.non, ?_⟩
    have : decide (x = .non) = false := by
      rw [hn]; split
      · exact (h rfl).elim
      · rfl
    rw [this]; exact q F _ H (.pure (.refl s) (by rw [Rep]))
  · cases e
theorem ok_notN : OkOp K (fun x y H Q => y = .non ∧ Q (.bl (!decide (x = .non))) H) notND := by
  intro F H dx dy x y k d Q s rx ry e q
  have hn := rx.isn
  unfold notND at e
  split at e
  · cases e; exact ⟨ry.non, by rw [hn]; exact q F _ H (.pure (.refl s) (by rw [Rep]; rfl))⟩
  · rename_i h
    cases e
    refine ⟨ry.non, ?_⟩
    have : decide (x = .non) = false := by
      rw [hn]; split
      · exact (h rfl).elim
      · rfl
    rw [this]; exact q F _ H (.pure (.refl s) (by rw [Rep]; rfl))
  · cases e
theorem Reps.atI {F : Hp} {ds : List D} {vs : List V} {i : Int} {d : D} (r : Reps K F ds vs) (e : atI ds i = some d) : ∃ v, atI vs i = some v ∧ Rep K F d v := by
  unfold L2.atI at e ⊢
  rw [← r.length]
  cases q : ixN ds.length i with
  | none => rw [q] at e; cases e
  | some j => rw [q] at e; exact r.get e
theorem ok_idxL : OkOp K (rIx K) idxL := by
  intro F H dx dy x y k d Q s rx ry e q
  unfold idxL at e
  split at e <;> first | (cases e; done) | skip
  rotate_right
  · rename_i xs i
    obtain ⟨a, vs, rfl, h1, h2⟩ := rx.tup s
    cases q1 : atI xs i with
    | none => rw [q1] at e; cases e
    | some z =>
      rw [q1] at e; cases e
      obtain ⟨v, e1, rv⟩ := h2.atI q1
      exact .inr (.inl ⟨a, vs, i, v, rfl, ry.int, SqT.of h1, e1, q F _ H (.pure (.refl s) rv)⟩)
  · rename_i xs i
    obtain ⟨a, vs, rfl, h1, h2⟩ := rx.lst s
    cases q1 : atI xs i with
    | none => rw [q1] at e; cases e
    | some z =>
      rw [q1] at e; cases e
      obtain ⟨v, e1, rv⟩ := h2.atI q1
      exact .inl ⟨a, vs, i, v, rfl, ry.int, SqL.of h1, e1, q F _ H (.pure (.refl s) rv)⟩
  · rename_i xs i
    obtain ⟨a, vs, rfl, h1, h2⟩ := rx.scr s
    cases q1 : atI xs i with
    | none => rw [q1] at e; cases e
    | some z =>
      rw [q1] at e; cases e
      obtain ⟨v, e1, rv⟩ := h2.atI q1
      exact .inl ⟨a, vs, i, v, rfl, ry.int, h1, e1, q F _ H (.pure (.refl s) rv)⟩
end
noncomputable def lenL : GN
  | [.lst xs] => some (.fz, .int xs.length)
  | [.scr xs] => some (.fz, .int xs.length)
  | [.tup xs] => some (.fz, .int xs.length)
  | _ => none
noncomputable def min2D : GN
  | [.int i, .int j] => some (.fz, .int (if j < i then j else i))
  | _ => none
noncomputable def listD : GN
  | [.lst xs] => some (.ow, .lst xs)
  | [.scr xs] => some (.ow, .lst xs)
  | [.tup xs] => some (.ow, .lst xs)
  | _ => none
section
variable {K : PySem.W.Frag} {X : Cx}
theorem ok_lenL : OkCall K (fun xs H Q => ∃ p ys, xs = [.ref p] ∧ (SqL K H p ys ∨ SqT K H p ys) ∧ Q (.int ys.length) H) lenL := by
  intro F H ds vs k d Q s r e q
  unfold lenL at e
  split at e
  · obtain ⟨v, _, rfl, rx, rfl⟩ := r
    cases e
    obtain ⟨a, us, rfl, h1, h2⟩ := rx.lst s
    exact ⟨a, us, rfl, .inl (SqL.of h1), q F _ H (.pure (.refl s) (by rw [Rep, h2.length]))⟩
  · obtain ⟨v, _, rfl, rx, rfl⟩ := r
    cases e
    obtain ⟨a, us, rfl, h1, h2⟩ := rx.scr s
    exact ⟨a, us, rfl, .inl h1, q F _ H (.pure (.refl s) (by rw [Rep, h2.length]))⟩
  · obtain ⟨v, _, rfl, rx, rfl⟩ := r
    cases e
    obtain ⟨a, us, rfl, h1, h2⟩ := rx.tup s
    exact ⟨a, us, rfl, .inr (SqT.of h1), q F _ H (.pure (.refl s) (by rw [Rep, h2.length]))⟩
  · cases e
theorem ok_min2 : OkCall K (fun xs H Q => ∃ i j, xs = [.int i, .int j] ∧ Q (.int (if j < i then j else i)) H) min2D := by
  intro F H ds vs k d Q s r e q
  unfold min2D at e
  split at e
  · rename_i i j
    obtain ⟨v, _, rfl, rx, u, _, rfl, ry, rfl⟩ := r
    cases e
    exact ⟨i, j, by rw [rx.int, ry.int], q F _ H (.pure (.refl s) (by rw [Rep]))⟩
  · cases e
theorem ok_list : OkCall K (fun xs H Q => ∃ p ys, xs = [.ref p] ∧ (SqL K H p ys ∨ SqT K H p ys) ∧ ∀ l, H l = none → Q (.ref l) (upd H l (.lst ys))) listD := by
  intro F H ds vs k d Q s r e q
  unfold listD at e
  split at e
  · obtain ⟨v, _, rfl, rx, rfl⟩ := r
    cases e
    obtain ⟨a, us, rfl, h1, h2⟩ := rx.lst s
    exact ⟨a, us, rfl, .inl (SqL.of h1), fun l hl => q F _ _ (Post.own (.refl s) hl fun H2 e => ⟨_, e, h2⟩)⟩
  · obtain ⟨v, _, rfl, rx, rfl⟩ := r
    cases e
    obtain ⟨a, us, rfl, h1, h2⟩ := rx.scr s
    exact ⟨a, us, rfl, .inl h1, fun l hl => q F _ _ (Post.own (.refl s) hl fun H2 e => ⟨_, e, h2⟩)⟩
  · obtain ⟨v, _, rfl, rx, rfl⟩ := r
    cases e
    obtain ⟨a, us, rfl, h1, h2⟩ := rx.tup s
    exact ⟨a, us, rfl, .inr (SqT.of h1), fun l hl => q F _ _ (Post.own (.refl s) hl fun H2 e => ⟨_, e, h2⟩)⟩
  · cases e
end
end L3
set_option Elab.async false
set_option linter.all false
set_option maxRecDepth 100000
namespace L3
open PySem L2
noncomputable def eOp (g : G2) (f1 f2 : Ev → R) (ev : Ev) : R := op2 g (f1 ev) (f2 ev)
noncomputable def eAnd (f g : Ev → R) (ev : Ev) : R := andR (f ev) (g ev)
noncomputable def eOr (f g : Ev → R) (ev : Ev) : R := orR (f ev) (g ev)
noncomputable def eNot (f : Ev → R) (ev : Ev) : R := notR (f ev)
noncomputable def eIf (c f g : Ev → R) (ev : Ev) : R := ifR (c ev) (f ev) (g ev)
noncomputable def aNil (_ : Ev) : RA := .ok []
noncomputable def aCons (f : Ev → R) (fs : Ev → RA) (ev : Ev) : RA := consA (f ev) (fs ev)
noncomputable def eTup (fs : Ev → RA) (ev : Ev) : R := tupR (fs ev)
noncomputable def eLst (fs : Ev → RA) (ev : Ev) : R := lstR (fs ev)
noncomputable def eCall (g : GN) (fs : Ev → RA) (ev : Ev) : R := callR g (fs ev)
noncomputable def iLst (f : Ev → R) (ev : Ev) : RI := itR (f ev)
noncomputable def iTupl (f : Ev → R) (ev : Ev) : RI := itT (f ev)
noncomputable def scalD : D → Bool
  | .non => true
  | .bl _ => true
  | .int _ => true
  | .str _ => true
  | _ => false
noncomputable def fnR (n : Nat) (φ : List D → R) : RA → R
  | .ok l => if l.length = n then (match allFz l with
    | some ds => match φ ds with
      | .ok .fz d => .ok .fz d
      | .ok .ow d => .ok .ow d
      | _ => .no
    | none => match φ (l.map (·.2)) with
      | .ok .bo _ => .no
      | .ok _ d => if scalD d then .ok .fz d else .no
      | _ => .no) else .no
  | .ex C => .ex C
  | .no => .no
noncomputable def eFn (n : Nat) (φ : List D → R) (fs : Ev → RA) (ev : Ev) : R := fnR n φ (fs ev)
noncomputable def ev0 (n : Nat) (ds : List D) : Ev := ds.map (fun d => some (.fz, d)) ++ List.replicate n none
noncomputable def runF (n : Nat) (g : Ev → Fl) (ds : List D) : R := match g (ev0 n ds) with
  | .rt .bo _ => .no
  | .rt k d => .ok k d
  | .nx _ => .ok .fz .non
  | .ex C => .ex C
  | _ => .no
noncomputable def appG (i : Nat) (f : Ev → R) (ev : Ev) : Fl := match ev[i]? with
  | some (some (.ow, .lst ds)) => match f ev with
    | .ok .bo _ => .no
    | .ok _ d => if ds.length < LIM then .nx (ev.set i (some (.ow, .lst (ds ++ [d])))) else .no
    | .ex C => .ex C
    | .no => .no
  | _ => .no
noncomputable def setLG (i : Nat) (f v : Ev → R) (ev : Ev) : Fl := match v ev with
  | .ok .bo _ => .no
  | .ok _ d => match ev[i]? with
    | some (some (.ow, .lst ds)) => match f ev with
      | .ok _ (.int k) => match ixN ds.length k with
        | some j => .nx (ev.set i (some (.ow, .lst (ds.set j d))))
        | none => .no
      | .ex C => .ex C
      | _ => .no
    | _ => .no
  | .ex C => .ex C
  | .no => .no
noncomputable def frzG (i : Nat) (g : Ev → Fl) (ev : Ev) : Fl := g (frzEv i ev)
section
variable {X : Cx} {F0 H0 : Hp} {Ψ : Psi} {a b c e : Expr} {es : List Expr} {f f1 f2 f3 : Ev → R} {fs : Ev → RA} {pos : Pos}
theorem v_var (i : Nat) {x : Str} (hN : X.N[i]? = some x := by rfl) (hv : Vis X.env.scope x := by first | exact Or.inl rfl | exact Or.inr (Or.inl rfl) | exact Or.inr (Or.inr rfl)) (hd : (x == ("__debug__" : Str)) = false := by decide)
    (hcd : (x == ("__classdict__" : Str)) = false := by decide) : VE X F0 H0 Ψ (.Name x pos) (varR i) := (pe_var hN hv hd hcd).mono fun _ _ _ h => tVar_of h
theorem v_int {i j} : VE X F0 H0 Ψ (.Constant (.int i) j pos) (conR (.int i)) := pe_int.mono fun _ _ _ h => tC_of (by rw [Rep]) h
theorem v_bl {i j} : VE X F0 H0 Ψ (.Constant (.bool i) j pos) (conR (.bl i)) := pe_bl.mono fun _ _ _ h => tC_of (by rw [Rep]) h
theorem v_non {j} : VE X F0 H0 Ψ (.Constant .none j pos) (conR .non) := pe_non.mono fun _ _ _ h => tC_of (by rw [Rep]) h
theorem v_str {i j} : VE X F0 H0 Ψ (.Constant (.str i) j pos) (conR (.str i)) := pe_str.mono fun _ _ _ h => tC_of (by rw [Rep]) h
theorem v_bin {op : Operator} {r : R2} {g : G2} (ho : OpR X (binaryOp op) r) (hg : OkOp X.K r g) (ha : VE X F0 H0 Ψ a f1) (hb : VE X F0 H0 Ψ b f2) : VE X F0 H0 Ψ (.BinOp a op b pos) (eOp g f1 f2) := (pe_op ho ha hb).mono fun _ _ _ h => tOp_of hg h
theorem v_add (ha : VE X F0 H0 Ψ a f1) (hb : VE X F0 H0 Ψ b f2) : VE X F0 H0 Ψ (.BinOp a .Add b pos) (eOp addD f1 f2) := v_bin op_add3 ok_add ha hb
theorem v_sub (ha : VE X F0 H0 Ψ a f1) (hb : VE X F0 H0 Ψ b f2) : VE X F0 H0 Ψ (.BinOp a .Sub b pos) (eOp subD f1 f2) := v_bin op_sub ok_sub ha hb
theorem v_fdiv (ha : VE X F0 H0 Ψ a f1) (hb : VE X F0 H0 Ψ b f2) : VE X F0 H0 Ψ (.BinOp a .FloorDiv b pos) (eOp fdivD f1 f2) := v_bin op_fdivW ok_fdiv ha hb
theorem v_mod (ha : VE X F0 H0 Ψ a f1) (hb : VE X F0 H0 Ψ b f2) : VE X F0 H0 Ψ (.BinOp a .Mod b pos) (eOp modD f1 f2) := v_bin op_mod ok_mod ha hb
theorem v_pow (ha : VE X F0 H0 Ψ a f1) (hb : VE X F0 H0 Ψ b f2) : VE X F0 H0 Ψ (.BinOp a .Pow b pos) (eOp powD f1 f2) := v_bin op_pow ok_pow ha hb
noncomputable def CmpOk (X : Cx) (op : CmpOp) (g : G2) : Prop := ∃ r : R2, OpR X (compareOp op) r ∧ OkOp X.K r g
theorem c_lt : CmpOk X .Lt ltD := ⟨_, op_lt, ok_lt⟩
theorem c_le : CmpOk X .LtE leD := ⟨_, op_le, ok_le⟩
theorem c_gt : CmpOk X .Gt gtD := ⟨_, op_gt, ok_gt⟩
theorem c_isN : CmpOk X .Is isND := ⟨_, op_isN, ok_isN⟩
theorem c_notN : CmpOk X .IsNot notND := ⟨_, op_notN, ok_notN⟩
theorem v_cmp {op : CmpOp} {g : G2} (hc : CmpOk X op g) (ha : VE X F0 H0 Ψ a f1) (hb : VE X F0 H0 Ψ b f2) (hm : behindInMarks op b = false := by first | exact nomark _ | rfl) : VE X F0 H0 Ψ (.Compare a [op] [b] pos) (eOp g f1 f2) := let ⟨_, ho, hg⟩ := hc; (pe_cmpR ho ha hb hm).mono fun _ _ _ h => tOp_of hg h
theorem vt_cmp {op : CmpOp} {g : G2} (hc : CmpOk X op g) (ha : VE X F0 H0 Ψ a f1) (hb : VE X F0 H0 Ψ b f2) (hm : behindInMarks op b = false := by first | exact nomark _ | rfl) : VT X F0 H0 Ψ (.Compare a [op] [b] pos) (eOp g f1 f2) :=
  let ⟨_, ho, hg⟩ := hc; (pt_cmpR ho ha hb hm).mono fun σ H Q h => by
    obtain ⟨F, ev, fi, m⟩ := h
    exact tOp_of (K := X.K) (F0 := F0) (H0 := H0) (Ψ := Ψ) (f1 := f1) (f2 := f2) hg (Q := fun x H' => ∃ k, x = .bl k ∧ Q k H') (by
      refine ⟨F, ev, fi, ?_⟩
      show match eOp g f1 f2 ev with
        | .ok k d => ∀ F' v H', Post X.K F H k d F' v H' → ∃ k, v = .bl k ∧ Q k H'
        | .ex C => ∀ F' H', Step F0 H0 F' H' → Ψ C H'
        | .no => False
      cases q : eOp g f1 f2 ev with
      | no => rw [q] at m; exact m
      | ex C => rw [q] at m; exact m
      | ok k d =>
        rw [q] at m
        intro F' v H' p
        cases d with
        | bl b => exact ⟨b, p.val.rd.bl, m F' H' p.st⟩
        | _ => exact m.elim)
theorem vt_val (h : VE X F0 H0 Ψ e f) (he : ∀ whole, isTrue e X.env whole = (do let v ← whole; standAt e.pos; holding [v] (truthy v)) := by intro _; rfl) : VT X F0 H0 Ψ e f := (pt_val h he).mono fun _ _ _ q => tB_of q
theorem vw_and1 (h : VT X F0 H0 Ψ a f) : VW X F0 H0 Ψ (.BoolOp .And [a] pos) f := pw_and1 h
theorem vw_or1 (h : VT X F0 H0 Ψ a f) : VW X F0 H0 Ψ (.BoolOp .Or [a] pos) f := pw_or1 h
theorem vw_and {rest : List Expr} (ha : VT X F0 H0 Ψ a f1) (hb : VW X F0 H0 Ψ (.BoolOp .And (b :: rest) pos) f2) : VW X F0 H0 Ψ (.BoolOp .And (a :: b :: rest) pos) (eAnd f1 f2) := (pw_and ha hb).mono fun _ _ _ q => tAnd_of q
theorem vw_or {rest : List Expr} (ha : VT X F0 H0 Ψ a f1) (hb : VW X F0 H0 Ψ (.BoolOp .Or (b :: rest) pos) f2) : VW X F0 H0 Ψ (.BoolOp .Or (a :: b :: rest) pos) (eOr f1 f2) := (pw_or ha hb).mono fun _ _ _ q => tOr_of q
theorem vt_w (h : VW X F0 H0 Ψ e f) : VT X F0 H0 Ψ e f := PW.pt h
theorem vt_not (h : VT X F0 H0 Ψ a f) : VT X F0 H0 Ψ (.UnaryOp .Not a pos) (eNot f) := (pt_not h).mono fun _ _ _ q => tNot_of q
theorem v_one {op} (h : VE X F0 H0 Ψ a f) : VE X F0 H0 Ψ (.BoolOp op [a] pos) f := pe_one h
theorem v_and {rest : List Expr} (ha : VE X F0 H0 Ψ a f1) (hb : VE X F0 H0 Ψ (.BoolOp .And (b :: rest) pos) f2) : VE X F0 H0 Ψ (.BoolOp .And (a :: b :: rest) pos) (eAnd f1 f2) := (pe_and ha hb).mono fun _ _ _ q => tAndV_of q
theorem v_or {rest : List Expr} (ha : VE X F0 H0 Ψ a f1) (hb : VE X F0 H0 Ψ (.BoolOp .Or (b :: rest) pos) f2) : VE X F0 H0 Ψ (.BoolOp .Or (a :: b :: rest) pos) (eOr f1 f2) := (pe_or ha hb).mono fun _ _ _ q => tOrV_of q
theorem v_if (hc : VT X F0 H0 Ψ c f1) (ha : VE X F0 H0 Ψ a f2) (hb : VE X F0 H0 Ψ b f3) : VE X F0 H0 Ψ (.IfExp c a b pos) (eIf f1 f2 f3) := (pe_ifExp hc ha hb).mono fun _ _ _ q => tIf_of q
theorem va_nil : VA X F0 H0 Ψ [] aNil := pa_nil.mono fun _ _ _ q => tNil_of q
theorem va_cons (ha : VE X F0 H0 Ψ e f) (hr : VA X F0 H0 Ψ es fs) (hs : starEach (e :: es) X.env = (false, eval e X.env) :: starEach es X.env := by rfl) : VA X F0 H0 Ψ (e :: es) (aCons f fs) := (pa_cons ha hr hs).mono fun _ _ _ q => tCons_of q
theorem v_tup {x1} (h : VA X F0 H0 Ψ es fs) : VE X F0 H0 Ψ (.Tuple es x1 pos) (eTup fs) := (pe_tup h).mono fun _ _ _ q => tTup_of q
theorem v_lst (h : VA X F0 H0 Ψ es fs) : VE X F0 H0 Ψ (.List es pos) (eLst fs) := (pe_lst h).mono fun _ _ _ q => tLst_of q
theorem v_callB {x : Str} {p : Pos} {id : String} {r : List V → Hp → VK → Prop} {g : GN} (hc : CallR X (.builtin id) r) (hg : OkCall X.K r g) (hm : X.mg x = none) (hv : bootBuiltins x = some (.builtin id)) (ha : VA X F0 H0 Ψ (e :: es) fs) (hgl : Gl X x := by rfl)
    (hn : x ≠ "__name__" := by decide) (hdb : (x == ("__debug__" : Str)) = false := by decide)
    (he : starEach (e :: es) X.env = (false, eval e X.env) :: starEach es X.env := by rfl) (hpl : (backTo pos (starEach es X.env)).any (·.1) = false := by rfl) : VE X F0 H0 Ψ (.Call (.Name x p) (e :: es) [] pos) (eCall g fs) := (pe_callB hc hgl hm hv ha hn hdb he hpl).mono fun _ _ _ q => tCB_of hg q
theorem v_callT {x : Str} {p : Pos} {T : String} {r : List V → Hp → VK → Prop} {g : GN} (hc : CallR X (.type T) r) (hg : OkCall X.K r g) (hm : X.mg x = none) (hv : bootBuiltins x = some (.type T)) (ha : VA X F0 H0 Ψ (e :: es) fs) (hgl : Gl X x := by rfl)
    (hn : x ≠ "__name__" := by decide) (hdb : (x == ("__debug__" : Str)) = false := by decide)
    (he : starEach (e :: es) X.env = (false, eval e X.env) :: starEach es X.env := by rfl) (hpl : (backTo pos (starEach es X.env)).any (·.1) = false := by rfl) : VE X F0 H0 Ψ (.Call (.Name x p) (e :: es) [] pos) (eCall g fs) := (pe_callTy hc hgl hm hv ha hn hdb he hpl).mono fun _ _ _ q => tCB_of hg q
theorem v_lenL {p : Pos} (hm : X.mg "len" = none) (ha : VA X F0 H0 Ψ [e] fs) (hgl : Gl X "len" := by rfl) (he : starEach [e] X.env = (false, eval e X.env) :: starEach [] X.env := by rfl) : VE X F0 H0 Ψ (.Call (.Name "len" p) [e] [] pos) (eCall lenL fs) := v_callB call_len_seq ok_lenL hm PySem.boot_len ha hgl (by decide) (by decide) he
theorem v_list {p : Pos} (hm : X.mg "list" = none) (ha : VA X F0 H0 Ψ [e] fs) (hgl : Gl X "list" := by rfl) (he : starEach [e] X.env = (false, eval e X.env) :: starEach [] X.env := by rfl) : VE X F0 H0 Ψ (.Call (.Name "list" p) [e] [] pos) (eCall listD fs) := v_callT call_list_of ok_list hm (by rfl) ha hgl (by decide) (by decide) he

variable {st : Stmt} {rest body orelse : List Stmt} {g h : Ev → Fl}
theorem vs_nil : VSs X F0 H0 Ψ [] .nx := pss_nil.mono fun _ _ _ q => tNext_of q
theorem vs_cons (h1 : VS X F0 H0 Ψ st g) (h2 : VSs X F0 H0 Ψ rest h) : VSs X F0 H0 Ψ (st :: rest) (seqG g h) := (pss_cons h1 h2).mono fun _ _ _ q => tSeq_of q
theorem vs_one (h1 : VS X F0 H0 Ψ st g) : VSs X F0 H0 Ψ [st] g := pss_one h1
theorem vs_continue : VS X F0 H0 Ψ (.Continue pos) .ct := ps_continue.mono fun _ _ _ q => tCont_of q
theorem vs_ret (he : VE X F0 H0 Ψ e f) : VS X F0 H0 Ψ (.Return (some e) pos) (retG f) := (ps_ret he).mono fun _ _ _ q => tRet_of q
theorem vs_retv (i : Nat) {x : Str} {p : Pos} (hN : X.N[i]? = some x := by rfl) (hv : Vis X.env.scope x := by first | exact Or.inl rfl | exact Or.inr (Or.inl rfl) | exact Or.inr (Or.inr rfl)) (hd : (x == ("__debug__" : Str)) = false := by decide)
    (hcd : (x == ("__classdict__" : Str)) = false := by decide) : VS X F0 H0 Ψ (.Return (some (.Name x p)) pos) (retVarG i) := (ps_ret (pe_var hN hv hd hcd)).mono fun _ _ _ q => tRetVar_of q
theorem vs_if (hc : VT X F0 H0 Ψ c f) (ha : VSs X F0 H0 Ψ body g) (hb : VSs X F0 H0 Ψ orelse h) : VS X F0 H0 Ψ (.If c body orelse pos) (ifG f g h) := (ps_if hc ha hb).mono fun _ _ _ q => tIfS_of q
theorem vs_set (i : Nat) {x : Str} {pos' : Pos} (hN : X.N.Nodup) (he : VE X F0 H0 Ψ e f) (hi : X.N[i]? = some x := by rfl) (hx : Loc X.env.scope x := by first | exact Or.inl rfl | exact Or.inr rfl) (hs : swapsWith e (some (.Name x pos')) pos.line X.env = pure false := by rfl)
    (hf : X.fn x = true ∨ X.env.scope.names.lookup x = some .local := by first | exact .inl rfl | exact .inr rfl) : VS X F0 H0 Ψ (.Assign [.Name x pos'] e pos) (setG i f) := (ps_set hN hi hx he hs hf).mono fun _ _ _ q => tSet_of q
noncomputable def VG (X : Cx) (F0 H0 : Hp) (t : Expr) (b : B1) : Prop := PG X t (gV X.K F0 H0 b)
noncomputable def VGs (X : Cx) (F0 H0 : Hp) (ts : List Expr) (b : BN) : Prop := PGs X ts (gVs X.K F0 H0 b)
theorem vg_name (i : Nat) {x : Str} (hN : X.N.Nodup) (hi : X.N[i]? = some x := by rfl) (hx : Loc X.env.scope x := by first | exact Or.inl rfl | exact Or.inr rfl)
    (hf : X.fn x = true ∨ X.env.scope.names.lookup x = some .local := by first | exact .inl rfl | exact .inr rfl) : VG X F0 H0 (.Name x pos) (bName i) := (pg_name hN hi hx hf).mono fun _ _ _ _ q => gName_of q
theorem vg_nil : VGs X F0 H0 [] bNil := pgs_nil.mono fun _ _ _ _ q => gNil_of q
theorem vg_cons {t : Expr} {ts : List Expr} {b1 : B1} {bn : BN} (h1 : VG X F0 H0 t b1) (h2 : VGs X F0 H0 ts bn) (hs : (assignEach (t :: ts) X.env).map (·.2) = assign t X.env :: (assignEach ts X.env).map (·.2) := by rfl) : VGs X F0 H0 (t :: ts) (bCons b1 bn) := (pgs_cons h1 h2 hs).mono fun _ _ _ _ q => gCons_of q
theorem vg_tup {ts : List Expr} {k n : Nat} {bn : BN} (hc : X.calm = true) (h : VGs X F0 H0 ts bn) (hn : (assignEach ts X.env).length = n := by rfl) (hst : (assignEach ts X.env).findIdx? (·.1) = none := by rfl) : VG X F0 H0 (.Tuple ts k pos) (bTup n bn) := (pg_tup hc h hn hst).mono fun _ _ _ _ q => gTup_of q
variable {tg iter : Expr} {fi : Ev → RI}
theorem vi_list (h : VE X F0 H0 Ψ e f) : VI X F0 H0 Ψ tg e (iLst f) := (pi_list h).mono fun _ _ _ q => iList_of q
theorem vi_tup (h : VE X F0 H0 Ψ e f) : VI X F0 H0 Ψ tg e (iTupl f) := (pi_tup h).mono fun _ _ _ q => iTup_of q
theorem vs_for {b1 : B1} (hp : PassesOwn (model X.prog X.w) X.A X.env X.xe) (hc : X.calm = true) (hi : VI X F0 H0 Ψ tg iter fi) (hg : VG X F0 H0 tg b1) (hb : VSs X F0 H0 Ψ body g) (hs : ∀ x, foldedSetIterable iter X.env x = pure x := by intro _; rfl) :
    VS X F0 H0 Ψ (.For tg iter body [] pos) (forG fi b1 g) := (ps_for hp hc hi hg hb hs).mono fun _ _ _ q => tFor_of q
theorem vs_frz (i : Nat) {sts : List Stmt} (h : VSs X F0 H0 Ψ sts g) : VSs X F0 H0 Ψ sts (frzG i g) := h.mono fun E σ H q => by
  obtain ⟨F, ev, fi, m⟩ := q
  obtain ⟨F', s, fi'⟩ := fi.frz i
  exact ⟨F', frzEv i ev, fi', FlowTo.mono m s⟩
end
end L3
set_option Elab.async false
set_option linter.all false
set_option maxRecDepth 100000
namespace L3
open PySem L2
section
variable {X : Cx} {K : PySem.W.Frag} {F0 H0 F H F' H' : Hp} {Ψ : Psi} {σ : St} {ev : Ev}
theorem FI.ow {i : Nat} {ds : List D} (fi : FI K F0 H0 F H ev σ) (e : ev[i]? = some (some (.ow, .lst ds))) : ∃ a vs, σ[i]? = some (some (.ref a)) ∧ H a = some (.lst vs) ∧ Reps K F ds vs := by
  obtain ⟨_, v, e1, a, rfl, h1, h2, vs, h3, h4⟩ := fi.at_ i _ _ e
  exact ⟨a, vs, e1, h3, h4⟩
theorem tApp_of {i : Nat} {f : Ev → R} {E : Ends} (q : tSv K F0 H0 Ψ (appG i f) E σ H) : tDrop (tBM K "list" rAppend (tVar i) (tCons (tV K F0 H0 Ψ f) tNil)) E σ H := by
  obtain ⟨F, ev, fi, m⟩ := q
  unfold appG at m
  split at m
  · rename_i ds e
    obtain ⟨a, vs, e1, h1, h2⟩ := fi.ow e
    refine ⟨.ref a, e1, .inl ⟨rfl, vs, SqL.of h1⟩, F, ev, fi, ?_⟩
    cases h3 : f ev with
    | no => rw [h3] at m; exact m
    | ex C => rw [h3] at m; exact m
    | ok k d =>
      rw [h3] at m
      intro F1 y H1 p
      have go : ∀ F2, Post K F H .fz d F2 y H1 → FlowTo K F0 H0 Ψ F E (if ds.length < LIM then .nx (ev.set i (some (.ow, .lst (ds ++ [d])))) else .no) → rAppend (.ref a) [y] H1 fun _ H1 => E.nx σ H1 := fun F2 p2 m => by
        by_cases hl : ds.length < LIM
        · rw [if_pos hl] at m
          refine ⟨a, vs, y, rfl, rfl, p2.st.keep _ _ h1, by rw [← h2.length]; exact Nat.lt_of_lt_of_le hl sizeLine_ge, ?_⟩
          exact m F2 _ σ p2.st.up ((fi.later p2.st).mut e e1 fun H2 z => ⟨_, z, (h2.mono p2.st.up).app (.cons p2.val .nil)⟩)
        · rw [if_neg hl] at m; exact m.elim
      cases k with
      | bo => exact m.elim
      | fz => exact go F1 p m
      | ow => obtain ⟨F2, p2⟩ := p.frz; exact go F2 p2 m
  · exact m.elim
variable {e i' : Expr} {f v : Ev → R} {x : Str} {p apos cpos pos : Pos}
theorem vs_app (i : Nat) (he : VE X F0 H0 Ψ e f) (hN : X.N[i]? = some x := by rfl) (hv : Vis X.env.scope x := by first | exact Or.inl rfl | exact Or.inr (Or.inl rfl) | exact Or.inr (Or.inr rfl)) (hd : (x == ("__debug__" : Str)) = false := by decide)
    (hcd : (x == ("__classdict__" : Str)) = false := by decide) (hbase : attributeBase (.Name x p) "append" X.env (eval (.Name x p) X.env) = eval (.Name x p) X.env := by rfl)
    (hfew : ((backTo cpos (starEach [e] X.env)).all (fun x => !x.1) && (backToKw cpos (keywordEach [] X.env)).all (fun x => x.1.isSome)
      && decide ([e].length + ([] : List Keyword).length + (if ([] : List Keyword).isEmpty then 0 else 1) < 30)) = true := by rfl)
    (hline : (apos.endLine == cpos.line) = true := by rfl) (hs : starEach [e] X.env = (false, eval e X.env) :: starEach [] X.env := by rfl) (hplain : (backTo cpos (starEach [] X.env)).any (·.1) = false := by rfl)
    (hsw : swapsWith (.Call (.Attribute (.Name x p) "append" apos) [e] [] cpos) none pos.line X.env = pure false := by rfl) :
    VS X F0 H0 Ψ (.Expr (.Call (.Attribute (.Name x p) "append" apos) [e] [] cpos) pos) (appG i f) :=
  (ps_expr (pe_bm PySem.F.plainAttrs_list PySem.F.slot_list_append PySem.F.type_list_append mt_append (pe_var hN hv hd hcd) (pa_cons he pa_nil hs) hbase hfew hline hs hplain) hsw).mono fun _ _ _ q => tApp_of q
end
noncomputable def spV0 (K : PySem.W.Frag) (φ : List D → R) (n : Nat) : Sp := fun vs H Q _ => ∃ F ds, Same F H ∧ Reps K F ds vs ∧ ds.length = n ∧ match φ ds with
  | .ok k d => k ≠ .bo ∧ ∀ F' v H', Post K F H k d F' v H' → Q v H'
  | _ => False
noncomputable abbrev Psi0 : Psi := fun _ _ => False
structure Callee (P : Program) (w : World) (K : PySem.W.Frag) (mg : Str → Option Value) (base : Heap) (k : Nat) (x : Str) (n : Nat) (φ : List D → R) : Prop where
  ex : ∃ f fd ps, FnOk P w K mg base CX0 k f fd ps (spV0 K φ n) ∧ Binds K fd ps [] ∧ mg x = some (.ref f) ∧ PySem.W.keepIn K (.ref f) = true
section
variable {X : Cx} {F0 H0 : Hp} {Ψ : Psi} {k n : Nat} {x : Str} {φ : List D → R} {p pos : Pos} {e : Expr} {es : List Expr} {fs : Ev → RA}
theorem scal_rep {K : PySem.W.Frag} {F F' H : Hp} {d : D} {v : V} (s : scalD d = true) (h : RdV K F H d v) : Rep K F' d v := by
  cases d <;> first | cases s | skip
  · rw [Rep]; exact h.non
  · rw [Rep]; exact h.bl
  · rw [Rep]; exact h.int
  · rw [Rep]; exact h.str
theorem v_fn (C : Callee X.prog X.w X.K X.mg X.base k x n φ) (hr : Room k X.A) (ha : VA X F0 H0 Ψ (e :: es) fs) (hg : Gl X x := by rfl) (hdb : (x == ("__debug__" : Str)) = false := by decide)
    (he : starEach (e :: es) X.env = (false, eval e X.env) :: starEach es X.env := by rfl) (hpl : (backTo pos (starEach es X.env)).any (·.1) = false := by rfl) :
    VE X F0 H0 Ψ (.Call (.Name x p) (e :: es) [] pos) (eFn n φ fs) := by
  obtain ⟨f, fd, ps, Fk, hb, hm, hk⟩ := C.ex
  refine (pe_call (E := E0) (dvs := []) (ds := []) Fk hr hg hm hk hb .nil pass0 ha hdb he hpl).mono fun σ H Q h => ?_
  obtain ⟨F, ev, fi, m⟩ := h
  refine ⟨F, ev, fi, ?_⟩
  unfold eFn at m
  cases h1 : fs ev with
  | no => rw [h1] at m; exact m
  | ex C => rw [h1] at m; exact m
  | ok l =>
    rw [h1] at m
    intro F1 vs H1 s va
    rw [List.append_nil]
    simp only [fnR] at m
    by_cases hn : l.length = n
    · rw [if_pos hn] at m
      cases h2 : allFz l with
      | some ds =>
        rw [h2] at m
        dsimp only at m
        have rs := va.fz h2
        refine ⟨F1, ds, s.sub, rs, by rw [rs.length, ← va.length]; exact hn, ?_⟩
        cases h3 : φ ds with
        | no => rw [h3] at m; exact m
        | ex C => rw [h3] at m; exact m
        | ok k' d =>
          rw [h3] at m
          cases k' with
          | bo => exact m.elim
          | fz => exact ⟨by simp, fun F' v H' p => m F' v H' ⟨s.trans p.st, p.val.early s.keep⟩⟩
          | ow => exact ⟨by simp, fun F' v H' p => m F' v H' ⟨s.trans p.st, p.val.early s.keep⟩⟩
      | none =>
        rw [h2] at m
        dsimp only at m
        have rs := va.rds s.sub
        refine ⟨H1, l.map (·.2), .refl _, rs, by simpa using hn, ?_⟩
        cases h3 : φ (l.map (·.2)) with
        | no => rw [h3] at m; exact m
        | ex C => rw [h3] at m; exact m
        | ok k' d =>
          rw [h3] at m
          have go : k' ≠ .bo → (match (if scalD d = true then R.ok .fz d else .no) with
            | .ok k d => ∀ F' v H', Post X.K F H k d F' v H' → Q v H'
            | .ex C => ∀ F' H', Step F0 H0 F' H' → Ψ C H'
            | .no => False) → k' ≠ .bo ∧ ∀ F' v H', Post X.K H1 H1 k' d F' v H' → Q v H' := fun nb m => by
            by_cases hs : scalD d = true
            · rw [if_pos hs] at m
              exact ⟨nb, fun F' v H' p => m F1 v H' ⟨s.trans ⟨.refl _, s.sub.trans p.st.keep, p.st.keep, fun a o e => .inl e⟩, scal_rep hs p.val.rd⟩⟩
            · rw [if_neg hs] at m; exact m.elim
          cases k' with
          | bo => exact m.elim
          | fz => exact go (by simp) m
          | ow => exact go (by simp) m
    · rw [if_neg hn] at m; exact m.elim
end
section
variable {P : Program} {w : World} {K : PySem.W.Frag} {mg : Str → Option Value} {base : Heap}
theorem FI.start {F H : Hp} {N : List Str} {ds : List D} {vs : List V} (s : Same F H) (r : Reps K F ds vs) : FI K F H F H (ev0 (N.length - ds.length) ds) (start N vs) := by
  refine ⟨.refl s, fun i k d e => ?_, fun i j d e hij e1 e2 => ?_, ?_⟩
  · unfold ev0 at e
    by_cases hi : i < ds.length
    · rw [List.getElem?_append_left (by simpa using hi), List.getElem?_map] at e
      cases q : ds[i]? with
      | none => rw [q] at e; cases e
      | some z =>
        rw [q] at e; cases e
        obtain ⟨v, e1, rv⟩ := r.get q
        refine ⟨by simp, v, ?_, rv⟩
        unfold L2.start
        rw [List.getElem?_append_left (by rw [List.length_map, ← r.length]; exact hi), List.getElem?_map, e1]
        rfl
    · rw [List.getElem?_append_right (by simpa using hi), List.getElem?_replicate] at e
      split at e <;> cases e
  · exfalso
    unfold ev0 at e1
    by_cases hi : i < ds.length
    · rw [List.getElem?_append_left (by simpa using hi), List.getElem?_map] at e1
      cases q : ds[i]? with
      | none => rw [q] at e1; cases e1
      | some z => rw [q] at e1; cases e1
    · rw [List.getElem?_append_right (by simpa using hi), List.getElem?_replicate] at e1
      split at e1 <;> cases e1
  · unfold ev0 L2.start
    simp only [List.length_append, List.length_map, List.length_replicate, r.length]
theorem fn_ok {x qual : Str} {st : Stmt} {f : Addr} {fd : FuncData} {N ps : List Str} {k : Nat} {g : Ev → Fl} (F : Fun K x qual st f fd) (S : FnScope N ps (defScope st))
    (hb : ∀ (cdv : Value) (A : Around) (outer : List Env) (s : Shared) (H : Hp) (E : XK) (F0 : Hp), Room k (A.deeper (PyProof.Rows.envOfC qual (defScope st) s.heap.objs.size f cdv)) →
      VSs (cxOf CX0 P w K mg base N qual (defScope st) f cdv A outer s H E).nox F0 H Psi0 (defBody st) g) :
    FnOk P w K mg base CX0 (k + 1) f fd ps (spV0 K (runF (N.length - ps.length) g) ps.length) := by
  refine F.ok S (fun vs H Q E h => ?_) (fun cdv A outer s H vs Q E hr h => ?_)
  · obtain ⟨F, ds, _, r, hl, _⟩ := h
    rw [← r.length]; exact hl
  · obtain ⟨F, ds, sub, r, hl, m⟩ := h
    refine ⟨_, hb cdv A outer s H E F hr, F, ev0 (N.length - ps.length) ds, by rw [← hl]; exact .start sub r, ?_⟩
    unfold runF at m
    cases q : g (ev0 (N.length - ps.length) ds) with
    | nx ev => rw [q] at m; exact fun F' H' σ' _ fi => m.2 F' .non H' ⟨fi.st, by rw [Val, Rep]⟩
    | rt k d =>
      rw [q] at m
      cases k with
      | bo => exact m.elim
      | fz => exact m.2
      | ow => exact m.2
    | bk ev => rw [q] at m; exact m.elim
    | ct ev => rw [q] at m; exact m.elim
    | ex C => rw [q] at m; exact m.elim
    | no => rw [q] at m; exact m.elim
end
end L3
set_option Elab.async false
set_option linter.all false
set_option maxRecDepth 100000
namespace L2
open PySem PySem.Spec PyProof.Rows
section
variable {prog : Program} {w : World} {A : Around} {R : Result → Shared → Prop} {s : Shared}
theorem compLoop_any {elt target iter : Expr} {ifs : List Expr} {scope : Scope} {pos : Pos} {it acc : Value} {env : Env} (I : Nat → Shared → Prop)
    (turn : ∀ n s, I n s → wpAny (model prog w) A (pyNext it) (fun r s₁ => match r with
      | none => R (.ok .next) s₁
      | some v => wpAny (model prog w) A (letOwnedTupleGo target it v) (fun _ s₂ => wpAny (model prog w) A (assign target env v) (fun _ s₃ =>
          wpAny (model prog w) A (forIn ifs true fun c r => if r = true then do let ok ← isTrue c env (eval c env); pure (ForInStep.yield ok) else pure (ForInStep.yield r)) (fun ok s₄ =>
            if ok = true then wpAny (model prog w) A (eval elt env) (fun x s₅ =>
              wpAny (model prog w) A (call (.builtin "list.append") [acc, x]) (fun _ s₆ => ∃ m, m < n ∧ I m s₆) (fun _ _ => False) s₅) (fun _ _ => False) s₄
            else ∃ m, m < n ∧ I m s₄) (fun _ _ => False) s₃) (fun _ _ => False) s₂) (fun _ _ => False) s₁) (fun _ _ => False) s)
    (n : Nat) (h : I n s) : codeAny (model prog w) A (.compLoop (.ListComp elt [⟨target, iter, ifs, 0⟩] scope pos) 0 it acc env) R s := by
  refine codeAny_loop rfl I (fun n s hI => ?_) n h
  show wpAny _ A ((compTurn (.ListComp elt [⟨target, iter, ifs, 0⟩] scope pos) 0 it acc env).onRaise (fun x => do noteFrame x env; theTreesLotGoes x)) _ _ s
  refine wpAny_noted ?_
  rw [compTurn_list]
  refine wpAny_bind (wpAny_standAt (wpAny_bind (wpAny_mono (turn n s hI) (fun r s₁ h₁ => ?_) fun _ _ h' => h'.elim)))
  cases r with
  | none => exact wpAny_pure h₁
  | some v =>
    refine wpAny_bind (wpAny_mono h₁ (fun _ s₂ h₂ => ?_) fun _ _ h' => h'.elim)
    refine wpAny_bind (wpAny_mono h₂ (fun _ s₃ h₃ => wpAny_bind (wpAny_mono h₃ (fun ok s₄ h₄ => ?_) fun _ _ h' => h'.elim)) fun _ _ h' => h'.elim)
    cases ok with
    | false => exact wpAny_pure ⟨rfl, h₄⟩
    | true =>
      exact wpAny_bind (wpAny_bind (wpAny_mono h₄ (fun x s₅ h₅ => wpAny_bind (wpAny_mono h₅ (fun _ s₆ h₆ => wpAny_pure (wpAny_pure ⟨rfl, h₆⟩)) fun _ _ h' => h'.elim)) fun _ _ h' => h'.elim))
end
noncomputable def PIfs (X : Cx) (ifs : List Expr) (t : TT) : Prop :=
  ∀ (pins : List (Addr × Obj)) (s : Shared) (σ : St) (H : Hp) (Q : Bool → Hp → Prop), Inv X pins σ H s → t σ H Q →
    wpAny (model X.prog X.w) X.A (forIn ifs true fun c r => if r = true then do let ok ← isTrue c X.env (eval c X.env); pure (ForInStep.yield ok) else pure (ForInStep.yield r)) (TP X pins σ Q) X.xe s
theorem pifs_nil {X : Cx} : PIfs X [] (fun _ H Q => Q true H) := fun _ _ _ H _ I h => wpAny_tests_nil ⟨H, I, h⟩
noncomputable def closOf (env : Env) : List (Str × NameKind) → List (Str × Addr) → List (Str × Addr)
  | [], acc => acc
  | (n, k) :: r, acc => closOf env r (if k == .free then (n, (env.cells.lookup n).getD 0) :: acc else acc)
theorem closOf_lookup {env : Env} {x : Str} {c : Addr} : ∀ (l : List (Str × NameKind)) (acc : List (Str × Addr)), (closOf env l acc).lookup x = some c →
    (∃ k, (x, k) ∈ l ∧ k = .free ∧ (env.cells.lookup x).getD 0 = c) ∨ acc.lookup x = some c
  | [], acc, h => .inr h
  | (n, k) :: r, acc, h => by
    rcases closOf_lookup r _ h with ⟨k', h1, h2, h3⟩ | h1
    · exact .inl ⟨k', .tail _ h1, h2, h3⟩
    · by_cases hk : (k == NameKind.free) = true
      · rw [if_pos hk, List.lookup_cons] at h1
        by_cases hx : (x == n) = true
        · simp only [hx] at h1
          have e : x = n := by simpa using hx
          subst e
          exact .inl ⟨k, .head _, by simpa using hk, Option.some.inj h1⟩
        · simp only [hx] at h1; exact .inr h1
      · rw [if_neg hk] at h1; exact .inr h1
theorem closOf_has {env : Env} {x : Str} : ∀ (l : List (Str × NameKind)) (acc : List (Str × Addr)), (x, NameKind.free) ∈ l ∨ (acc.lookup x).isSome = true → ∃ c, (closOf env l acc).lookup x = some c
  | [], acc, h => by
    rcases h with h | h
    · cases h
    · exact Option.isSome_iff_exists.mp h
  | (n, k) :: r, acc, h => by
    refine closOf_has r _ ?_
    rcases h with h | h
    · rcases List.mem_cons.mp h with e | h
      · cases e
        right
        simp [List.lookup_cons]
      · exact .inl h
    · right
      by_cases hk : (k == NameKind.free) = true
      · rw [if_pos hk, List.lookup_cons]
        by_cases hx : (x == n) = true
        · simp [hx]
        · simp only [hx]; exact h
      · rw [if_neg hk]; exact h
theorem closureFor_of {scope : Scope} {env : Env} (h : ∀ y ∈ scope.names, y.2 = .free → ∃ c, env.cells.lookup y.1 = some c) : closureFor scope env = pure (closOf env scope.names []) := by
  have key : ∀ (l : List (Str × NameKind)) (acc : List (Str × Addr)), (∀ y ∈ l, y.2 = .free → ∃ c, env.cells.lookup y.1 = some c) →
      (forIn l acc fun (x : Str × NameKind) (cs : List (Str × Addr)) => (match x with | (name, kind) => if (kind == NameKind.free) = true then (do let c ← cellOf env name; pure (ForInStep.yield ((name, c) :: cs))) else pure (ForInStep.yield cs) : Sem (ForInStep (List (Str × Addr))))) = pure (closOf env l acc) := by
    intro l
    induction l with
    | nil => intro acc _; rfl
    | cons x r ih =>
      intro acc hl
      obtain ⟨n, k⟩ := x
      rw [List.forIn_cons]
      by_cases hk : (k == NameKind.free) = true
      · obtain ⟨c, hc⟩ := hl (n, k) (.head _) (by simpa using hk)
        have e : cellOf env n = pure c := by unfold cellOf; rw [hc]
        simp only [hk, if_true, e, pure_bind, closOf]
        rw [ih _ fun y hy => hl y (.tail _ hy)]
        dsimp only at hc
        rw [hc]
        rfl
      · simp only [hk, Bool.false_eq_true, if_false, pure_bind, closOf]
        exact ih _ fun y hy => hl y (.tail _ hy)
  unfold closureFor
  have := key scope.names [] h
  exact (congrArg (fun m => m >>= fun cs => pure cs) this).trans rfl
theorem relabel_lookup {env : Env} {x : Str} : ∀ {names : List (Str × NameKind)} {k : NameKind}, (names.map fun (n, k) => if (k == NameKind.free && env.scope.kind == .function && env.kindOf n == some .cell) then (n, NameKind.cell) else (n, k)).lookup x = some k →
    names.lookup x = some k ∨ (k = .cell ∧ names.lookup x = some .free)
  | [], _, h => by simp at h
  | (n, k0) :: r, k, h => by
    have ih := @relabel_lookup env x r k
    rw [List.map_cons] at h
    by_cases hx : (x == n) = true
    · by_cases hc : (k0 == NameKind.free && env.scope.kind == .function && env.kindOf n == some .cell) = true
      · simp only [hc, if_true, List.lookup_cons, hx] at h
        have hf : k0 = .free := by simp at hc; exact hc.1.1
        exact .inr ⟨(Option.some.inj h).symm, by simp [List.lookup_cons, hx, hf]⟩
      · simp only [hc, if_false, List.lookup_cons, hx] at h
        exact .inl (by simpa [List.lookup_cons, hx] using h)
    · by_cases hc : (k0 == NameKind.free && env.scope.kind == .function && env.kindOf n == some .cell) = true
      · rw [show (match ((n, k0) : Str × NameKind) with | (n, k) => if (k == NameKind.free && env.scope.kind == .function && env.kindOf n == some .cell) = true then (n, NameKind.cell) else (n, k)) = (n, .cell) from if_pos hc] at h
        rw [List.lookup_cons] at h
        simp only [hx] at h
        simpa [List.lookup_cons, hx] using ih h
      · rw [show (match ((n, k0) : Str × NameKind) with | (n, k) => if (k == NameKind.free && env.scope.kind == .function && env.kindOf n == some .cell) = true then (n, NameKind.cell) else (n, k)) = (n, k0) from if_neg hc] at h
        rw [List.lookup_cons] at h
        simp only [hx] at h
        simpa [List.lookup_cons, hx] using ih h

theorem relabel_free {env : Env} {x : Str} : ∀ {names : List (Str × NameKind)}, names.lookup x = some .free →
    (names.map fun (n, k) => if (k == NameKind.free && env.scope.kind == .function && env.kindOf n == some .cell) then (n, NameKind.cell) else (n, k)).lookup x = some .cell ∨
    (names.map fun (n, k) => if (k == NameKind.free && env.scope.kind == .function && env.kindOf n == some .cell) then (n, NameKind.cell) else (n, k)).lookup x = some .free
  | [], h => by simp at h
  | (n, k0) :: r, h => by
    have ih := @relabel_free env x r
    rw [List.map_cons, List.lookup_cons] at *
    by_cases hx : (x == n) = true
    · simp only [hx] at h
      cases h
      by_cases hc : (NameKind.free == NameKind.free && env.scope.kind == .function && env.kindOf n == some .cell) = true
      · left; simp only [if_pos hc, hx]
      · right; simp only [if_neg hc, hx]
    · simp only [hx] at h
      by_cases hc : (k0 == NameKind.free && env.scope.kind == .function && env.kindOf n == some .cell) = true
      · simp only [if_pos hc, hx]; exact ih h
      · simp only [if_neg hc, hx]; exact ih h
noncomputable def cxC (X : Cx) (N' : List Str) (scope : Scope) (C : Addr) (s : Shared) (H : Hp) (fp : List Addr) : Cx where
  prog := X.prog
  w := X.w
  K := X.K
  mg := X.mg
  base := X.base
  A := X.A
  N := N'
  s₀ := s
  H₀ := H
  env := compEnvC scope (closOf X.env scope.names []) C X.env
  outer := X.stack
  stack := X.stack
  ex := fp
  fn := fun _ => false
  calm := X.calm
  pn := []
  xe := fun _ _ => False
noncomputable def capS (cap : List (Option Nat)) (σ : St) : St := cap.map fun o => o.bind fun j => (σ[j]?).join
structure CompScope (X : Cx) (N' : List Str) (cap : List (Option Nat)) (scope : Scope) : Prop where
  kind : scope.kind = .function
  nocell : ∀ y ∈ scope.names, y.2 ≠ .cell
  names : ∀ y ∈ scope.names, y.2 = .local → scope.names.lookup y.1 = some .local
  fr : ∀ y ∈ scope.names, y.2 = .free → X.env.kindOf y.1 = some .cell ∨ X.env.kindOf y.1 = some .free
  len : cap.length = N'.length
  cap : ∀ (i j : Nat), cap[i]? = some (some j) → ∃ x, N'[i]? = some x ∧ X.N[j]? = some x ∧ scope.names.lookup x = some .free
section
variable {X : Cx} {pins : List (Addr × Obj)} {σ : St} {H : Hp} {s : Shared} {N' : List Str} {cap : List (Option Nat)} {scope : Scope} {fp : List Addr}
theorem mem_of_lookup' {x : Str} {k : NameKind} {l : List (Str × NameKind)} (h : l.lookup x = some k) : (x, k) ∈ l := PySem.mem_of_lookup h
theorem CompScope.cells (S : CompScope X N' cap scope) (ok : X.Ok) : ∀ y ∈ scope.names, y.2 = .free → ∃ c, X.env.cells.lookup y.1 = some c := fun y hy hf => ok.has y.1 (S.fr y hy hf)
theorem CompScope.cl (S : CompScope X N' cap scope) (ok : X.Ok) {x : Str} {c : Addr} (h : (closOf X.env scope.names []).lookup x = some c) : X.env.cells.lookup x = some c := by
  rcases closOf_lookup _ _ h with ⟨k, h1, h2, h3⟩ | h1
  · subst h2
    obtain ⟨c', e⟩ := S.cells ok (x, .free) h1 rfl
    rw [e] at h3
    rw [e]; exact congrArg some h3
  · simp at h1
theorem CompScope.inv (S : CompScope X N' cap scope) (I : Inv X pins σ H s) (hfp : ∀ b ∈ fp, FpOk X pins H b) {h' : Heap} {t' : Nat} (hk : ∀ b o, s.heap.get? b = some o → h'.get? b = some o) (hn : h'.Ns s.heap.objs.size fun _ => none) (hfs : ∀ b ∈ fp, b < s.heap.objs.size) :
    Inv (cxC X N' scope s.heap.objs.size s H fp) [] (capS cap σ) H { s with heap := h', toks := t' } := by
  have scl : ∀ {x : Str} {c : Addr}, (closOf X.env scope.names []).lookup x = some c → X.env.cells.lookup x = some c := fun h => S.cl I.ok h
  refine ⟨⟨I.ok.mod, by simpa [cxC, compEnvC, relabel] using S.kind, I.ok.glob, I.ok.blt, Nat.le_refl _, fun x y c h1 h2 => I.ok.inj x y c (scl h1) (scl h2), fun x hx => ?_, fun x c hf h => ?_, I.ok.hd, I.ok.frames, .inl rfl, fun b hb => ⟨Nat.ne_of_lt (hfs b hb), fun x c h => (hfp b hb).2.2.2.2.1 x c (scl h)⟩,
    I.bs, Nat.le_trans I.ok.bsz I.sz, fun b o e hb => ?_, fun b hb hf => ?_, I.stack, I.stkFree⟩, rfl, I.bare, Un.kept hk, ⟨_, hn, fun i x v e1 e2 e3 => ?_⟩, fun x c h => ?_, I.hok.fresh (Nat.le_refl _), fun x c h => I.freeC x c (scl h), fun p hp => absurd (show p ∈ ([] : List (Addr × Obj)) from hp) (by simp), I.hok.kept hk, ?_⟩
  · -- a name of a cell has one
    have hx : (scope.names.map fun (n, k) => if (k == NameKind.free && X.env.scope.kind == .function && X.env.kindOf n == some .cell) then (n, NameKind.cell) else (n, k)).lookup x = some .cell ∨ (scope.names.map fun (n, k) => if (k == NameKind.free && X.env.scope.kind == .function && X.env.kindOf n == some .cell) then (n, NameKind.cell) else (n, k)).lookup x = some .free := hx
    have : (x, NameKind.free) ∈ scope.names := by
      rcases hx with hx | hx
      · rcases relabel_lookup hx with q | ⟨_, q⟩
        · exact absurd rfl (S.nocell _ (mem_of_lookup' q))
        · exact mem_of_lookup' q
      · rcases relabel_lookup hx with q | ⟨q, _⟩
        · exact mem_of_lookup' q
        · cases q
    exact closOf_has _ _ (.inl this)
  · exact absurd (show false = true from hf) (by decide)
  · -- base objects are no iterators
    have hb' := hfp b hb
    rcases hb'.2.2.2.1 with z | z
    · exact I.ok.noex b o e z
    · exact absurd (Nat.lt_of_lt_of_le (Heap.lt_size (I.ok.bs b o e).1) z) (Nat.lt_irrefl _)
  · -- an iterator is no frame
    rcases List.mem_cons.mp (I.stkSub b hf) with e | e
    · exact (hfp b hb).2.1 e
    · exact (hfp b hb).2.2.1 e
  · -- the names from around
    obtain ⟨j, hj, hv⟩ : ∃ j, cap[i]? = some (some j) ∧ σ[j]? = some (some v) := by
      unfold capS at e2
      rw [List.getElem?_map] at e2
      cases q : cap[i]? with
      | none => rw [q] at e2; cases e2
      | some o =>
        rw [q] at e2
        cases o with
        | none => cases e2
        | some j =>
          refine ⟨j, rfl, ?_⟩
          have e2 : (σ[j]?).join = some v := Option.some.inj e2
          cases q2 : σ[j]? with
          | none => rw [q2] at e2; cases e2
          | some z => rw [q2] at e2; rw [show z = some v from e2]
    obtain ⟨y, g1, g2, g3⟩ := S.cap i j hj
    have exy : x = y := Option.some.inj (e1.symm.trans g1)
    subst exy
    have hk2 := S.fr (x, .free) (mem_of_lookup' g3) rfl
    obtain ⟨m, hm, hl⟩ := I.loc
    obtain ⟨u, r, l⟩ := hl j x v g2 hv (hk2.elim (fun z => .inr (.inl z)) fun z => .inr (.inr z))
    refine ⟨u, r, .inr ⟨relabel_free g3, ?_⟩⟩
    rcases l with ⟨z, _⟩ | ⟨_, c, e, q⟩
    · rcases hk2 with z' | z' <;> (rw [z] at z'; cases z')
    · obtain ⟨c', e'⟩ := closOf_has (env := X.env) (x := x) scope.names [] (.inl (mem_of_lookup' g3))
      have := scl e'
      rw [e] at this
      cases this
      exact ⟨c, e', q.keeps hk⟩
  · obtain ⟨v, q⟩ := I.cell x c (scl h)
    exact ⟨v, q.keeps hk⟩
  · show (capS cap σ).length = N'.length
    unfold capS; rw [List.length_map]; exact S.len
end
end L2
set_option Elab.async false
set_option linter.all false
set_option maxRecDepth 100000
namespace L2
open PySem PySem.Spec PyProof.Rows
noncomputable def tLC (cap : List (Option Nat)) (wi : TI) (g : TG) (tc : TT) (te : TE) : TE := fun σ H Q => wi σ H fun J H1 => ∀ D, H1 D = none → ∃ W : Nat → Nat → List V → L2.St → Hp → Prop,
  (∃ m, W 0 m [] (capS cap σ) (upd H1 D (.lst []))) ∧ ∀ i m ys σ' H', W i m ys σ' H' → H' D = some (.lst ys) ∧ ys.length < sizeLine ∧
    ((J.stop i H' ∧ Q (.ref D) H') ∨ (J.go i H' ∧ ∀ x H2, J.yld i H' x H2 → g x σ' H2 fun σ3 H3 => tc σ3 H3 fun b H4 =>
      if b = true then te σ3 H4 fun y H5 => H5 D = some (.lst ys) ∧ ∃ m', m' < m ∧ W (i + 1) m' (ys ++ [y]) σ3 (upd H5 D (.lst (ys ++ [y]))) else ∃ m', m' < m ∧ W (i + 1) m' ys σ3 H4))
section
variable {X : Cx} {pins : List (Addr × Obj)} {σ : L2.St} {H : Hp} {s : Shared} {N' : List Str} {cap : List (Option Nat)} {scope : Scope} {elt target iter : Expr} {ifs : List Expr} {wi : TI} {g : TG} {tc : TT} {te : TE} {pos p0 : Pos}
theorem comp_run {use : Option (Value → Sem Unit)} {Q' : VK} {Q : Value → Shared → Prop} (hcalm : X.calm = true) (S : CompScope X N' cap scope) (hi : PI X target iter wi)
    (hb : ∀ C s H fp, PG (cxC X N' scope C s H fp) target g ∧ PIfs (cxC X N' scope C s H fp) ifs tc ∧ PE (cxC X N' scope C s H fp) elt te) (hs : ∀ x, foldedSetIterable iter X.env x = pure x)
    (I : Inv X pins σ H s) (h : tLC cap wi g tc te σ H Q')
    (fin : ∀ (D C : Addr) (o : Obj) (H' : Hp) (s' : Shared), Inv X (pins ++ [(C, o)]) σ H' s' → FpOk X pins H' C → (∃ m, ∀ h : Heap, h.get? C = some o → h.Ns C m) → Q' (.ref D) H' → compPost (model X.prog X.w) X.A X.xe use Q (.ref D) C (.ok .next) s') :
    wpAny (model X.prog X.w) X.A (comprehension (.ListComp elt [⟨target, iter, ifs, 0⟩] scope pos) scope X.env p0 (newList []) false (eval iter X.env) use) Q X.xe s := by
  refine wpAny_comprehension_free rfl hs (closureFor_of (S.cells I.ok)) S.kind S.names ?_
  refine thn (hi pins s σ H _ I h) fun xv s₁ h₁ => thn h₁ fun itv s₂ h₂ => ?_
  obtain ⟨it, fp, tn, J, H2, rfl, I2, T, st2, f2, h2⟩ := h₂
  have hlt : ∀ b ∈ fp, b < s₂.heap.objs.size := fun b hb => by obtain ⟨o, e, _⟩ := T.obj 0 _ st2 b hb; exact Heap.lt_size e
  refine wpAny_newObj_type (wpAny_newFunctionEnv S.nocell (by intro y hy; simp at hy) (fun h4 hns4 hsb4 => ?_) S.kind)
  have I3 := I2.lnew (ys := []) (its := []) (t' := s₂.toks) .nil (Nat.zero_le _)
  obtain ⟨W, ⟨m0, w0⟩, turn⟩ := h2 s₂.heap.objs.size (I2.hok.fresh (Nat.le_refl _))
  have f3 : ∀ b ∈ fp, FpOk X pins (upd H2 s₂.heap.objs.size (.lst [])) b := fun b hb => by
    obtain ⟨q0, q⟩ := f2 b hb
    exact ⟨by rw [upd_ne (Nat.ne_of_lt (hlt b hb))]; exact q0, q⟩
  generalize hs3 : ({ s₂ with heap := s₂.heap.push { cls := .type "list", dict := none, data := .seq ([] : List Value).toArray } } : Shared) = s3 at *
  have hk : ∀ b o, s3.heap.get? b = some o → h4.get? b = some o := fun b o e => hsb4.extBut b o (Nat.ne_of_lt (Heap.lt_size e)) (Heap.get?_push_of_some _ e)
  have hsz : s₂.heap.objs.size ≤ s3.heap.objs.size := by rw [← hs3]; show _ ≤ (s₂.heap.push _).objs.size; rw [Heap.size_push]; exact Nat.le_succ _
  have hlt3 : ∀ b ∈ fp, b < s3.heap.objs.size := fun b hb => Nat.lt_of_lt_of_le (hlt b hb) hsz
  have kept23 : ∀ b o, s₂.heap.get? b = some o → s3.heap.get? b = some o := fun b o e => by rw [← hs3]; exact Heap.get?_push_of_some _ e
  have Ic := S.inv (t' := s3.toks + ([] : List (Str × Value)).length) I3 f3 hk hns4 hlt3
  have st4 : tn 0 h4 := T.keep 0 _ _ st2 fun b hb o e => hk b o (kept23 b o e)
  obtain ⟨bg, bi, be⟩ := hb s3.heap.objs.size s3 (upd H2 s₂.heap.objs.size (.lst [])) fp
  -- the iterator's objects, in the block
  have statC : ∀ {H' : Hp}, (∀ b ∈ fp, H' b = none) → ∀ b ∈ fp, FpOk (cxC X N' scope s3.heap.objs.size s3 (upd H2 s₂.heap.objs.size (.lst [])) fp) [] H' b := fun hn b hb =>
    ⟨hn b hb, Nat.ne_of_lt (hlt3 b hb), fun hf => by
      rcases List.mem_cons.mp (I3.stkSub b hf) with e | e
      · exact (f3 b hb).2.1 e
      · exact (f3 b hb).2.2.1 e, .inl hb, fun x c e => (f3 b hb).2.2.2.2.1 x c (S.cl I3.ok e), fun p hp => absurd (show p ∈ ([] : List (Addr × Obj)) from hp) (by simp)⟩
  have loop : codeAny (model X.prog X.w) X.A (.compLoop (.ListComp elt [⟨target, iter, ifs, 0⟩] scope pos) 0 (.ref it) (.ref s₂.heap.objs.size) (compEnvC scope (closOf X.env scope.names []) s3.heap.objs.size X.env))
      (compPost (model X.prog X.w) X.A X.xe use Q (.ref s₂.heap.objs.size) s3.heap.objs.size) { s3 with heap := h4, toks := s3.toks + ([] : List (Str × Value)).length } := by
    refine compLoop_any (fun n s' => ∃ i ys σ' H', Inv (cxC X N' scope s3.heap.objs.size s3 (upd H2 s₂.heap.objs.size (.lst [])) fp) [] σ' H' s' ∧ tn i s'.heap ∧ (∀ b ∈ fp, H' b = none) ∧ W i n ys σ' H') ?_ m0
      ⟨0, [], _, _, Ic, st4, fun b hb => (f3 b hb).1, w0⟩
    rintro n s5 ⟨i, ys, σ5, H5, I5, st5, fr5, w5⟩
    obtain ⟨hD, hl, alt⟩ := turn i n ys σ5 H5 w5
    rcases alt with ⟨stop, q⟩ | ⟨go, step⟩
    · refine thn (T.done (cxC X N' scope s3.heap.objs.size s3 (upd H2 s₂.heap.objs.size (.lst [])) fp) rfl rfl rfl hcalm i [] s5 σ5 H5 _ I5 (statC fr5) st5 stop) fun r s6 ⟨hr, I6⟩ => ?_
      subst hr
      -- back to the outer frame
      have I7 : Inv X pins σ H5 s6 := I3.call' (ch := fp) I6.os I6.base I6.hok I6.bare fun b hb => ⟨(f3 b hb).2.2.2.1, (f3 b hb).2.1, (f3 b hb).2.2.2.2.1, (f3 b hb).2.2.2.2.2⟩
      obtain ⟨m, ⟨o, es, ep, ho, hd, hrest⟩, _⟩ := id I6.loc
      have hC : FpOk X pins H5 s3.heap.objs.size := I3.fpOk (Nat.le_refl _) I6.free
      refine fin _ _ o H5 s6 (I7.pins_of fun p hp => ?_) hC ⟨m, fun h e => ⟨o, es, ep, e, hd, hrest⟩⟩ q
      rcases List.mem_append.mp hp with hp | hp
      · exact I7.pin p (List.mem_append_right _ hp)
      · have e : p = (s3.heap.objs.size, o) := by simpa using hp
        subst e
        exact ⟨ho, hC.1, hC.2.1, hC.2.2.1, fun v => by rw [hd]; intro z; cases z⟩
    · refine thn (T.item (cxC X N' scope s3.heap.objs.size s3 (upd H2 s₂.heap.objs.size (.lst [])) fp) rfl rfl rfl hcalm i [] s5 σ5 H5 _ I5 (statC fr5) st5 go) fun r s6 ⟨u, hr, h6⟩ => ?_
      subst hr
      refine thn h6 fun _ s7 ⟨x, H7, I7, r7, y7, st7, fr7⟩ => ?_
      have I7' := I7.pinned (statC fr7) (T.obj _ _ st7)
      refine thn (bg _ s7 σ5 H7 x u _ I7' r7 (step x H7 y7)) fun _ s8 ⟨σ8, H8, I8, q8⟩ => ?_
      refine thn (bi _ s8 σ8 H8 _ I8 q8) fun ok s9 ⟨H9, I9, q9⟩ => ?_
      have again : ∀ {ys' : List V} {H' : Hp} {s' : Shared} {m' : Nat}, Inv (cxC X N' scope s3.heap.objs.size s3 (upd H2 s₂.heap.objs.size (.lst [])) fp) ([] ++ pinsAt fp s7.heap) σ8 H' s' → m' < n → W (i + 1) m' ys' σ8 H' →
          ∃ m, m < n ∧ ∃ i ys σ' H', Inv (cxC X N' scope s3.heap.objs.size s3 (upd H2 s₂.heap.objs.size (.lst [])) fp) [] σ' H' s' ∧ tn i s'.heap ∧ (∀ b ∈ fp, H' b = none) ∧ W i m ys σ' H' := fun {ys' H' s' m'} I' hm w' => by
        refine ⟨m', hm, i + 1, ys', σ8, H', I'.unpinned, T.keep _ _ _ st7 fun b hb o e => (I'.pin (b, o) (List.mem_append_right _ (List.mem_append_right _ (mem_pinsAt hb e)))).1, fun b hb => ?_, w'⟩
        obtain ⟨o, e, d⟩ := T.obj _ _ st7 b hb
        exact (I'.pin (b, o) (List.mem_append_right _ (List.mem_append_right _ (mem_pinsAt hb e)))).2.1
      cases ok with
      | false =>
        rw [if_neg Bool.false_ne_true] at q9 ⊢
        obtain ⟨m', hm, w'⟩ := q9
        exact again I9 hm w'
      | true =>
        rw [if_pos rfl] at q9 ⊢
        refine thn (be _ s9 σ8 H9 _ I9 q9) fun v s10 ⟨y, H10, I10, r10, hD10, m', hm, w'⟩ => ?_
        refine thn (mt_append _ s10 σ8 H10 (.ref s₂.heap.objs.size) [y] (.ref s₂.heap.objs.size) [v] (fun _ H' => H' = upd H10 s₂.heap.objs.size (.lst (ys ++ [y]))) I10 rfl (.cons r10 .nil) ⟨_, ys, y, rfl, rfl, hD10, hl, rfl⟩) fun _ s11 ⟨_, H11, I11, _, e11⟩ => ?_
        subst e11
        exact again I11 hm w'
  exact codeAny_compStart_list loop (T.self _ 0 _ _ _ st4 loop)
theorem comp_letgo {C : Addr} {o : Obj} {H' : Hp} {s' : Shared} {σ' : L2.St} (I : Inv X (pins ++ [(C, o)]) σ' H' s') (f : FpOk X pins H' C) {h' : Heap} (sb : Heap.SameBut C s'.heap h') : Inv X pins σ' H' { s' with heap := h' } :=
  (I.unpinned).turned (t' := s'.toks) (fun b ob hb e => sb.extBut b ob hb e) f.1 f.2.1 f.2.2.2.1 f.2.2.2.2.1 f.2.2.2.2.2
theorem pe_lcomp (hcalm : X.calm = true) (S : CompScope X N' cap scope) (hi : PI X target iter wi)
    (hb : ∀ C s H fp, PG (cxC X N' scope C s H fp) target g ∧ PIfs (cxC X N' scope C s H fp) ifs tc ∧ PE (cxC X N' scope C s H fp) elt te) (hs : ∀ x, foldedSetIterable iter X.env x = pure x := by intro _; rfl) :
    PE X (.ListComp elt [⟨target, iter, ifs, 0⟩] scope pos) (tLC cap wi g tc te) := by
  intro pins s σ H Q I h
  rw [eval_ListComp]
  refine comp_run (use := none) (Q' := Q) hcalm S hi hb hs I h fun D C o H' s' I' f ⟨m, hm⟩ q => ?_
  have ho := (I'.pin (C, o) (by simp)).1
  exact ⟨m, hm _ ho, fun h' sb => ⟨.ref D, H', comp_letgo I' f sb, rfl, q⟩⟩
end
end L2
set_option Elab.async false
set_option linter.all false
set_option maxRecDepth 100000
namespace L3
open PySem L2
noncomputable def capE (cap : List (Option Nat)) (ev : Ev) : Ev := cap.map fun o => o.bind fun j => match (ev[j]?).join with
  | some (.fz, d) => some (.fz, d)
  | _ => none
noncomputable def compE (b : B1) (c e : Ev → R) (ev : Ev) : List D → Option (List D)
  | [] => some []
  | d :: ds => match b d ev with
    | none => none
    | some ev1 => match c ev1 with
      | .ok _ (.bl t) => if t then (match e ev1 with
        | .ok .bo _ => none
        | .ok _ x => (compE b c e ev ds).map (x :: ·)
        | _ => none) else compE b c e ev ds
      | _ => none
noncomputable def compR (cap : List (Option Nat)) (b : B1) (c e : Ev → R) (ev : Ev) : RI → R
  | .ok ds => if ds.length < LIM then (match compE b c e (capE cap ev) ds with
    | some l => .ok .ow (.lst l)
    | none => .no) else .no
  | .ex C => .ex C
  | .no => .no
noncomputable def eComp (cap : List (Option Nat)) (fi : Ev → RI) (b : B1) (c e : Ev → R) (ev : Ev) : R := compR cap b c e ev (fi ev)
noncomputable def BOnly (S : List Nat) (b : B1) : Prop := ∀ d ev ev', b d ev = some ev' → ev'.length = ev.length ∧ ∀ i, i ∉ S → ev'[i]? = ev[i]?
theorem bo_name (i : Nat) : BOnly [i] (bName i) := fun d ev ev' e => by
  cases e
  exact ⟨by simp, fun j hj => by rw [List.getElem?_set_ne]; simp at hj; exact fun z => hj z.symm⟩
section
variable {X : Cx} {K : PySem.W.Frag} {F0 H0 F H F' H' : Hp} {Ψ : Psi} {σ : L2.St} {ev : Ev}
theorem capE_no (cap : List (Option Nat)) (ev : Ev) {i : Nat} {d : D} : (capE cap ev)[i]? ≠ some (some (.ow, d)) := fun e => by
  unfold capE at e
  rw [List.getElem?_map] at e
  cases q : cap[i]? with
  | none => rw [q] at e; cases e
  | some o =>
    rw [q] at e
    cases o with
    | none => cases e
    | some j =>
      have e : (match (ev[j]?).join with | some (.fz, d) => some (Kd.fz, d) | _ => none) = some (.ow, d) := Option.some.inj e
      split at e <;> cases e
theorem FI.cap (cap : List (Option Nat)) (f : FI K F0 H0 F H ev σ) : FI K F0 H0 F H (capE cap ev) (capS cap σ) := by
  refine ⟨f.st, fun i k d e => ?_, fun i j d e _ e1 _ => absurd e1 (capE_no cap ev), by simp [capE, capS]⟩
  have e' := e
  unfold capE at e
  rw [List.getElem?_map] at e
  cases q : cap[i]? with
  | none => rw [q] at e; cases e
  | some o =>
    rw [q] at e
    cases o with
    | none => cases e
    | some j =>
      have e : (match (ev[j]?).join with | some (.fz, d) => some (Kd.fz, d) | _ => none) = some (k, d) := Option.some.inj e
      split at e
      · rename_i d' hj
        cases e
        have hj' : ev[j]? = some (some (.fz, d)) := by
          cases q2 : ev[j]? with
          | none => rw [q2] at hj; cases hj
          | some z => rw [q2] at hj; rw [show z = some (.fz, d) from hj]
        obtain ⟨n, v, e1, hv⟩ := f.at_ j _ _ hj'
        refine ⟨n, v, ?_, hv⟩
        unfold capS
        rw [List.getElem?_map, q]
        show some ((σ[j]?).join) = _
        rw [e1]; rfl
      · cases e
theorem FI.hid {a : Addr} {o : HO} (f : FI K F0 H0 F H ev σ) (no : ∀ (i : Nat) d, ev[i]? ≠ some (some (.ow, d))) (h0 : H0 a = none) (hf : F a = none) : FI K F0 H0 F (upd H a o) ev σ := by
  have ne : ∀ {G : Hp}, G a = none → Same G H → Same G (upd H a o) := fun {G} n s b u q => by
    rw [upd_ne]; exact s b u q
    rintro rfl; rw [n] at q; cases q
  refine ⟨⟨f.st.up, ne hf f.sub, ne h0 f.st.keep, f.st.new⟩, fun i k d e => ?_, f.apart, f.len⟩
  obtain ⟨n, v, e1, hv⟩ := f.at_ i k d e
  cases k with
  | bo => exact absurd rfl n
  | ow => exact absurd e (no i d)
  | fz => exact ⟨n, v, e1, hv⟩
theorem tLC_of {cap : List (Option Nat)} {fi : Ev → RI} {b : B1} {c e : Ev → R} {S : List Nat} {Q : VK} (hB : BOnly S b) (hS : ∀ i ∈ S, cap[i]? = some none) (h : tV K F0 H0 Ψ (eComp cap fi b c e) σ H Q) :
    tLC cap (tVI K F0 H0 Ψ fi) (gV K F0 H0 b) (tVT K F0 H0 Psi0 c) (tV K F0 H0 Psi0 e) σ H Q := by
  obtain ⟨F, ev, fi', m⟩ := h
  refine ⟨F, ev, fi', ?_⟩
  unfold eComp at m
  cases h1 : fi ev with
  | no => rw [h1] at m; exact m
  | ex C => rw [h1] at m; exact m
  | ok ds =>
    rw [h1] at m
    intro F1 H1 J s y Dd hD
    simp only [compR] at m
    by_cases hl : ds.length < LIM
    · rw [if_pos hl] at m
      cases h2 : compE b c e (capE cap ev) ds with
      | none => rw [h2] at m; exact m.elim
      | some l =>
        rw [h2] at m
        have hD0 : H0 Dd = none := (fi'.st.trans s).keep.free hD
        have hDH : H Dd = none := s.keep.free hD
        have hDF : F1 Dd = none := s.sub.free hD
        have up1 : ∀ G : Hp, G Dd = none → Same G H1 → Same G (upd H1 Dd (.lst [])) := fun G n s b u q => by
          rw [upd_ne]; exact s b u q
          rintro rfl; rw [n] at q; cases q
        refine ⟨fun i m ys σ' H' => m = ds.length - i ∧ i ≤ ds.length ∧ ∃ F2 es rest, FI K F0 H0 F2 H' (capE cap ev) σ' ∧ Same F1 F2 ∧ Step F H F2 H' ∧ H' Dd = some (.lst ys) ∧ F2 Dd = none ∧ Reps K F2 es ys ∧
            compE b c e (capE cap ev) (ds.drop i) = some rest ∧ es ++ rest = l ∧ es.length ≤ i, ?_, ?_⟩
        · refine ⟨ds.length, by simp, Nat.zero_le _, F1, [], l, ((fi'.later s).cap cap).hid (fun i d => capE_no cap ev) hD0 hDF, .refl _, ⟨s.up, up1 _ hDF s.sub, up1 _ hDH s.keep, s.new⟩, upd_same, hDF, .nil, h2, rfl, Nat.zero_le _⟩
        · rintro i m' ys σ' H' ⟨rfl, hi, F2, es, rest, f2, u2, st2, hd2, hf2, rs2, ce, el, hel⟩
          refine ⟨hd2, by rw [← rs2.length]; exact Nat.lt_of_le_of_lt (Nat.le_trans hel hi) (Nat.lt_of_lt_of_le hl sizeLine_ge), ?_⟩
          by_cases hlt : i < ds.length
          · refine .inr ⟨y.go i H' (u2.trans f2.sub) hlt, fun x H2 yl => ?_⟩
            obtain ⟨F3, d, s3, ed, r⟩ := y.yld i F2 H' x H2 u2 f2.sub hlt yl
            have edr : ds.drop i = d :: ds.drop (i + 1) := by
              obtain ⟨h, e'⟩ := List.getElem?_eq_some_iff.mp ed
              rw [← e']
              exact List.drop_eq_getElem_cons h
            rw [edr] at ce
            simp only [compE] at ce
            cases q1 : b d (capE cap ev) with
            | none => rw [q1] at ce; cases ce
            | some ev1 =>
              rw [q1] at ce
              dsimp only at ce
              refine ⟨F3, capE cap ev, d, ev1, f2.later s3, r, q1, fun H'' σ3 hH f3 => ?_⟩
              subst hH
              obtain ⟨lb, gb⟩ := hB _ _ _ q1
              -- the block's names from around are as they were
              have weak : ∀ {F4 H4 : Hp}, FI K F0 H0 F4 H4 ev1 σ3 → FI K F0 H0 F4 H4 (capE cap ev) σ3 := fun f4 => f4.weak lb.symm fun j k d' e' => by
                by_cases hj : j ∈ S
                · have := hS j hj
                  unfold capE at e'
                  rw [List.getElem?_map, this] at e'
                  cases e'
                · rw [gb j hj]; exact e'
              refine ⟨F3, ev1, f3, ?_⟩
              cases q2 : c ev1 with
              | no => rw [q2] at ce; cases ce
              | ex C => rw [q2] at ce; cases ce
              | ok k2 d2 =>
                rw [q2] at ce
                cases d2 with
                | bl t =>
                  intro F4 H4 s4
                  have st34 := s3.trans s4
                  have hd4 : H4 Dd = some (.lst ys) := st34.keep _ _ hd2
                  have hf4 : F4 Dd = none := st34.unfz hd2 hf2
                  cases t with
                  | false =>
                    rw [if_neg Bool.false_ne_true]
                    simp only [Bool.false_eq_true, if_false] at ce
                    exact ⟨ds.length - (i + 1), by omega, rfl, hlt, F4, es, rest, weak (f3.later s4), u2.trans st34.up, st2.trans st34, hd4, hf4, rs2.mono st34.up, ce, el, Nat.le_succ_of_le hel⟩
                  | true =>
                    rw [if_pos rfl]
                    simp only [if_true] at ce
                    refine ⟨F4, ev1, f3.later s4, ?_⟩
                    cases q3 : e ev1 with
                    | no => rw [q3] at ce; cases ce
                    | ex C => rw [q3] at ce; cases ce
                    | ok k3 x3 =>
                      rw [q3] at ce
                      intro F5 v5 H5 p5
                      have go : ∀ F6, Post K F4 H4 .fz x3 F6 v5 H5 → ((compE b c e (capE cap ev) (ds.drop (i + 1))).map (x3 :: ·)) = some rest → H5 Dd = some (.lst ys) ∧ ∃ m', m' < ds.length - i ∧ m' = ds.length - (i + 1) ∧ i + 1 ≤ ds.length ∧ ∃ F2 es rest, FI K F0 H0 F2 (upd H5 Dd (.lst (ys ++ [v5]))) (capE cap ev) σ3 ∧ Same F1 F2 ∧ Step F H F2 (upd H5 Dd (.lst (ys ++ [v5]))) ∧ (upd H5 Dd (.lst (ys ++ [v5]))) Dd = some (.lst (ys ++ [v5])) ∧ F2 Dd = none ∧ Reps K F2 es (ys ++ [v5]) ∧
                          compE b c e (capE cap ev) (ds.drop (i + 1)) = some rest ∧ es ++ rest = l ∧ es.length ≤ i + 1 := fun F6 p6 ce => by
                        have st := st34.trans p6.st
                        have hd6 : H5 Dd = some (.lst ys) := st.keep _ _ hd2
                        have hf6 : F6 Dd = none := st.unfz hd2 hf2
                        cases q4 : compE b c e (capE cap ev) (ds.drop (i + 1)) with
                        | none => rw [q4] at ce; cases ce
                        | some rest' =>
                          rw [q4] at ce
                          have ce : x3 :: rest' = rest := Option.some.inj ce
                          have S2 := st2.trans st
                          have ne : ∀ {G : Hp}, G Dd = none → Same G H5 → Same G (upd H5 Dd (.lst (ys ++ [v5]))) := fun {G} n s b u q => by
                            rw [upd_ne]; exact s b u q
                            rintro rfl; rw [n] at q; cases q
                          refine ⟨hd6, ds.length - (i + 1), by omega, rfl, hlt, F6, es ++ [x3], rest', (weak ((f3.later s4).later p6.st)).hid (fun i d => capE_no cap ev) hD0 hf6, u2.trans st.up, ⟨S2.up, ne hf6 S2.sub, ne hDH S2.keep, S2.new⟩, upd_same, hf6, (rs2.mono st.up).app (.cons p6.val .nil), rfl, ?_, by simpa using hel⟩
                          rw [← el, ← ce]; simp
                      cases k3 with
                      | bo => cases ce
                      | fz => exact go F5 p5 ce
                      | ow => obtain ⟨F6, p6⟩ := p5.frz; exact go F6 p6 ce
                | _ => cases ce
          · have e2 : i = ds.length := by omega
            subst e2
            rw [List.drop_length] at ce
            cases ce
            refine .inl ⟨y.stop _ H' (u2.trans f2.sub) (Nat.le_refl _), ?_⟩
            rw [List.append_nil] at el
            subst el
            exact m F2 _ H' ⟨st2, Dd, rfl, hDH, hf2, ys, hd2, rs2⟩
    · rw [if_neg hl] at m; exact m.elim
end
end L3
set_option Elab.async false
set_option linter.all false
set_option maxRecDepth 100000
namespace L3
open PySem L2
noncomputable def capOk (N N' : List Str) (cap : List (Option Nat)) (names : List (Str × NameKind)) : Bool := (List.range cap.length).all fun i => match cap[i]? with
  | some (some j) => (match N'[i]?, N[j]? with
    | some x, some y => decide (x = y) && decide (names.lookup x = some .free)
    | _, _ => false)
  | _ => true
structure CompSc (osc : Scope) (N N' : List Str) (cap : List (Option Nat)) (scope : Scope) : Prop where
  kind : scope.kind = .function
  nocell : ∀ y ∈ scope.names, y.2 ≠ .cell
  names : ∀ y ∈ scope.names, y.2 = .local → scope.names.lookup y.1 = some .local
  fr : ∀ y ∈ scope.names, y.2 = .free → osc.names.lookup y.1 = some .cell ∨ osc.names.lookup y.1 = some .free
  len : cap.length = N'.length
  cap : capOk N N' cap scope.names = true
theorem CompSc.to {X : Cx} {osc : Scope} {N N' : List Str} {cap : List (Option Nat)} {scope : Scope} (h : CompSc osc N N' cap scope) (h1 : X.env.scope = osc) (h2 : X.N = N) : CompScope X N' cap scope := by
  subst h1; subst h2
  refine ⟨h.kind, h.nocell, h.names, h.fr, h.len, fun i j e => ?_⟩
  have hi : i < cap.length := (List.getElem?_eq_some_iff.mp e).1
  have := List.all_eq_true.mp h.cap i (by simpa using hi)
  rw [e] at this
  dsimp only at this
  split at this
  · rename_i x y e1 e2
    rw [Bool.and_eq_true] at this
    have e3 : x = y := of_decide_eq_true this.1
    subst e3
    exact ⟨x, e1, e2, of_decide_eq_true this.2⟩
  · cases this
section
variable {X : Cx} {F0 H0 : Hp} {Ψ : Psi} {N N' : List Str} {osc scope : Scope} {cap : List (Option Nat)} {elt target iter c : Expr} {ifs : List Expr} {fi : Ev → RI} {b : B1} {f e : Ev → R} {S : List Nat} {pos : Pos}
noncomputable def VF (X : Cx) (F0 H0 : Hp) (ifs : List Expr) (f : Ev → R) : Prop := PIfs X ifs (tVT X.K F0 H0 Psi0 f)
theorem vf_nil : VF X F0 H0 [] (conR (.bl true)) := fun pins s σ H Q I h => by
  obtain ⟨F, ev, fi, m⟩ := h
  exact pifs_nil pins s σ H Q I (m F H fi.refl)
theorem v_comp (N' : List Str) (cap : List (Option Nat)) (S : List Nat) (hX : X.env.scope = osc) (hN : X.N = N) (C : CompSc osc N N' cap scope) (hcalm : X.calm = true) (hi : VI X F0 H0 Ψ target iter fi) (hB : BOnly S b)
    (hb : ∀ C s H fp, VG (cxC X N' scope C s H fp) F0 H0 target b ∧ VF (cxC X N' scope C s H fp) F0 H0 ifs f ∧ VE (cxC X N' scope C s H fp) F0 H0 Psi0 elt e) (hS : ∀ i ∈ S, cap[i]? = some none := by decide)
    (hs : ∀ x, foldedSetIterable iter X.env x = pure x := by intro _; rfl) : VE X F0 H0 Ψ (.ListComp elt [⟨target, iter, ifs, 0⟩] scope pos) (eComp cap fi b f e) :=
  (pe_lcomp (g := gV X.K F0 H0 b) (tc := tVT X.K F0 H0 Psi0 f) (te := tV X.K F0 H0 Psi0 e) hcalm (C.to hX hN) hi hb hs).mono fun _ _ _ q => tLC_of hB hS q
end
mutual
noncomputable def py : D → Option PyData
  | .non => some .none
  | .bl b => some (.bool b)
  | .int i => some (.int i)
  | .str x => if PyData.strOk x = true then some (.str x) else none
  | .tup xs => (pyL xs).map .tuple
  | .lst xs => (pyL xs).map .list
  | .scr xs => (pyL xs).map .list
  | .dK _ _ => none
  | .dT _ _ => none
  | .obj _ _ _ => none
  | .ty _ => none
noncomputable def pyL : List D → Option (List PyData)
  | [] => some []
  | d :: ds => (py d).bind fun p => (pyL ds).map (p :: ·)
end
section
variable {X : Cx} {pins : List (Addr × Obj)} {σ : L2.St} {H : Hp} {s : Shared}
mutual
theorem Rep.reads (I : Inv X pins σ H s) : ∀ {d : D} {v : V} {u : Value} {p : PyData}, Rep X.K H d v → RelV v u → py d = some p → ∃ as, Reads s.heap u p as ∧ p.canLay0 = true
  | .non, _, _, _, h, r, e => by rw [Rep] at h; subst h; rw [py] at e; cases e; cases r; exact ⟨[], .none, rfl⟩
  | .bl b, _, _, _, h, r, e => by rw [Rep] at h; subst h; rw [py] at e; cases e; cases r; exact ⟨[], .bool b, rfl⟩
  | .int i, _, _, _, h, r, e => by rw [Rep] at h; subst h; rw [py] at e; cases e; obtain ⟨t, rfl⟩ := r; exact ⟨[], .int i t, rfl⟩
  | .str x, _, _, _, h, r, e => by
    rw [Rep] at h; subst h; rw [py] at e
    split at e
    · rename_i hs; cases e; obtain ⟨t, rfl⟩ := r; exact ⟨[], .str x t, by simpa [PyData.canLay0] using hs⟩
    · cases e
  | .tup xs, _, _, _, h, r, e => by
    rw [Rep] at h; obtain ⟨a, vs, rfl, h2, h3⟩ := h
    rw [py] at e
    cases q : pyL xs with
    | none => rw [q] at e; cases e
    | some ps =>
      rw [q] at e; cases e
      cases r
      obtain ⟨its, rv, ⟨o, ho, hc, n, hd⟩, hz⟩ := I.tuple (SqT.of h2)
      obtain ⟨as, h4, h5⟩ := Reps.reads I h3 rv q
      exact ⟨as, .tuple ho hc hd (by simpa using h4), by simpa [PyData.canLay0] using h5⟩
  | .lst xs, _, _, _, h, r, e => by
    rw [Rep] at h; obtain ⟨a, vs, rfl, h2, h3⟩ := h
    rw [py] at e
    cases q : pyL xs with
    | none => rw [q] at e; cases e
    | some ps =>
      rw [q] at e; cases e
      cases r
      obtain ⟨its, rv, pl, hz⟩ := I.list (SqL.of h2)
      obtain ⟨o, ho, hc, n, hd⟩ := pl.isList
      obtain ⟨as, h4, h5⟩ := Reps.reads I h3 rv q
      exact ⟨a :: as, .list ho hc hd (by simpa using h4), by simpa [PyData.canLay0] using h5⟩
  | .scr xs, _, _, _, h, r, e => by
    rw [Rep] at h; obtain ⟨a, vs, rfl, h2, h3⟩ := h
    rw [py] at e
    cases q : pyL xs with
    | none => rw [q] at e; cases e
    | some ps =>
      rw [q] at e; cases e
      cases r
      obtain ⟨its, rv, pl, hz⟩ := I.list h2
      obtain ⟨o, ho, hc, n, hd⟩ := pl.isList
      obtain ⟨as, h4, h5⟩ := Reps.reads I h3 rv q
      exact ⟨a :: as, .list ho hc hd (by simpa using h4), by simpa [PyData.canLay0] using h5⟩
  | .dK _ _, _, _, _, _, _, e => by rw [py] at e; cases e
  | .dT _ _, _, _, _, _, _, e => by rw [py] at e; cases e
  | .obj _ _ _, _, _, _, _, _, e => by rw [py] at e; cases e
  | .ty _, _, _, _, _, _, e => by rw [py] at e; cases e
theorem Reps.reads (I : Inv X pins σ H s) : ∀ {ds : List D} {vs : List V} {us : List Value} {ps : List PyData}, Reps X.K H ds vs → Vals vs us → pyL ds = some ps → ∃ as, ReadsAll s.heap us ps as ∧ PyData.canLayAll0 ps = true
  | [], _, _, _, h, r, e => by rw [h.unnil] at r; cases r; rw [pyL] at e; cases e; exact ⟨[], .nil, rfl⟩
  | d :: ds, _, _, _, h, r, e => by
    obtain ⟨v, t, rfl, h1, h2⟩ := h.uncons
    cases r with
    | cons r1 r2 =>
      rw [pyL] at e
      cases q1 : py d with
      | none => rw [q1] at e; cases e
      | some p =>
        rw [q1] at e
        cases q2 : pyL ds with
        | none => rw [q2] at e; cases e
        | some ps =>
          rw [q2] at e
          cases e
          obtain ⟨as, g1, g2⟩ := Rep.reads I h1 r1 q1
          obtain ⟨bs, g3, g4⟩ := Reps.reads I h2 r2 q2
          exact ⟨as ++ bs, .cons g1 g3, by simp [PyData.canLayAll0, g2, g4]⟩
end
end
noncomputable def DEEP : Nat := 60
noncomputable def eqD : G2 := fun a b => match py a, py b with
  | some p, some q => if p.depth ≤ DEEP then some (.fz, .bl (p.eqv q)) else none
  | _, _ => none
noncomputable def neD : G2 := fun a b => match py a, py b with
  | some p, some q => if p.depth ≤ DEEP then some (.fz, .bl (!p.eqv q)) else none
  | _, _ => none
noncomputable def itemsD : D → Option (List D)
  | .lst xs => some xs
  | .scr xs => some xs
  | .tup xs => some xs
  | _ => none
noncomputable def inL : G2 := fun a b => match py a, (itemsD b).bind pyL with
  | some p, some qs => if p.depth ≤ DEEP then some (.fz, .bl (qs.any fun q => q.eqv p)) else none
  | _, _ => none
noncomputable def notInL : G2 := fun a b => match py a, (itemsD b).bind pyL with
  | some p, some qs => if p.depth ≤ DEEP then some (.fz, .bl (!qs.any fun q => q.eqv p)) else none
  | _, _ => none
section
variable {X : Cx}
noncomputable def rP (K : PySem.W.Frag) (g : G2) : R2 := fun x y H Q => ∃ dx dy d, Rep K H dx x ∧ Rep K H dy y ∧ g dx dy = some (.fz, .bl d) ∧ Q (.bl d) H
theorem ok_P {K : PySem.W.Frag} {g : G2} (hg : ∀ a b k d, g a b = some (k, d) → ∃ t, k = .fz ∧ d = .bl t) : OkOp K (rP K g) g := by
  intro F H dx dy x y k d Q s rx ry e q
  obtain ⟨t, rfl, rfl⟩ := hg _ _ _ _ e
  exact ⟨dx, dy, t, rx.rep s, ry.rep s, e, q F _ H (.pure (.refl s) (by rw [Rep]))⟩
theorem eqD_bl (a b : D) (k : Kd) (d : D) (e : eqD a b = some (k, d)) : ∃ t, k = .fz ∧ d = .bl t := by
  unfold eqD at e; split at e
  · split at e
    · cases e; exact ⟨_, rfl, rfl⟩
    · cases e
  · cases e
theorem neD_bl (a b : D) (k : Kd) (d : D) (e : neD a b = some (k, d)) : ∃ t, k = .fz ∧ d = .bl t := by
  unfold neD at e; split at e
  · split at e
    · cases e; exact ⟨_, rfl, rfl⟩
    · cases e
  · cases e
theorem inL_bl (a b : D) (k : Kd) (d : D) (e : inL a b = some (k, d)) : ∃ t, k = .fz ∧ d = .bl t := by
  unfold inL at e; split at e
  · split at e
    · cases e; exact ⟨_, rfl, rfl⟩
    · cases e
  · cases e
theorem notInL_bl (a b : D) (k : Kd) (d : D) (e : notInL a b = some (k, d)) : ∃ t, k = .fz ∧ d = .bl t := by
  unfold notInL at e; split at e
  · split at e
    · cases e; exact ⟨_, rfl, rfl⟩
    · cases e
  · cases e
theorem c_eq (hu : X.A.units + 100 < cLine) : CmpOk X .Eq eqD := by
  refine ⟨rP X.K eqD, fun pins s σ H x y v u Q I rx ry h => ?_, ok_P eqD_bl⟩
  obtain ⟨dx, dy, t, hx, hy, e, q⟩ := h
  unfold eqD at e
  split at e
  · rename_i p q' e1 e2
    split at e
    · rename_i hd
      have e' : PyData.eqv p q' = t := by injection e with e; injection e with _ e; injection e
      obtain ⟨as, r1, c1⟩ := hx.reads I rx e1
      obtain ⟨bs, r2, c2⟩ := hy.reads I ry e2
      refine SeqAt.compareEq_reads r1 r2 c1 c2 (by have := Nat.min_le_left p.depth q'.depth; unfold DEEP at hd; omega) ?_
      rw [e']
      exact ⟨.bl t, H, I, rfl, q⟩
    · cases e
  · cases e
theorem c_ne (hu : X.A.units + 100 < cLine) : CmpOk X .NotEq neD := by
  refine ⟨rP X.K neD, fun pins s σ H x y v u Q I rx ry h => ?_, ok_P neD_bl⟩
  obtain ⟨dx, dy, t, hx, hy, e, q⟩ := h
  unfold neD at e
  split at e
  · rename_i p q' e1 e2
    split at e
    · rename_i hd
      have e' : (!PyData.eqv p q') = t := by injection e with e; injection e with _ e; injection e
      obtain ⟨as, r1, c1⟩ := hx.reads I rx e1
      obtain ⟨bs, r2, c2⟩ := hy.reads I ry e2
      refine SeqAt.compareNe_reads r1 r2 c1 c2 (by have := Nat.min_le_left p.depth q'.depth; unfold DEEP at hd; omega) ?_
      rw [e']
      exact ⟨.bl t, H, I, rfl, q⟩
    · cases e
  · cases e
theorem items_reads {pins : List (Addr × Obj)} {σ : L2.St} {H : Hp} {s : Shared} (I : Inv X pins σ H s) {d : D} {v : V} {u : Value} {xs : List D} {ps : List PyData} (h : Rep X.K H d v) (r : RelV v u) (e : itemsD d = some xs) (ep : pyL xs = some ps) :
    PyData.canLayAll0 ps = true ∧ ((∃ as, Reads s.heap u (.list ps) as) ∨ ∃ as, Reads s.heap u (.tuple ps) as) := by
  cases d <;> simp only [itemsD] at e <;> first | cases e | skip
  · obtain ⟨as, h1, h2⟩ := h.reads I r (show py (.tup xs) = some (.tuple ps) by rw [py, ep]; rfl)
    exact ⟨by simpa [PyData.canLay0] using h2, .inr ⟨as, h1⟩⟩
  · obtain ⟨as, h1, h2⟩ := h.reads I r (show py (.lst xs) = some (.list ps) by rw [py, ep]; rfl)
    exact ⟨by simpa [PyData.canLay0] using h2, .inl ⟨as, h1⟩⟩
  · obtain ⟨as, h1, h2⟩ := h.reads I r (show py (.scr xs) = some (.list ps) by rw [py, ep]; rfl)
    exact ⟨by simpa [PyData.canLay0] using h2, .inl ⟨as, h1⟩⟩
theorem c_inL (hu : X.A.units + 100 < cLine) : CmpOk X .In inL := by
  refine ⟨rP X.K inL, fun pins s σ H x y v u Q I rx ry h => ?_, ok_P inL_bl⟩
  obtain ⟨dx, dy, t, hx, hy, e, q⟩ := h
  unfold inL at e
  split at e
  · rename_i p qs e1 e2
    split at e
    · rename_i hd
      have e' : (qs.any fun q => q.eqv p) = t := by injection e with e; injection e with _ e; injection e
      cases q1 : itemsD dy with
      | none => rw [q1] at e2; cases e2
      | some xs =>
        rw [q1] at e2
        obtain ⟨as, r1, c1⟩ := hx.reads I rx e1
        obtain ⟨c2, r2⟩ := items_reads I hy ry q1 e2
        have hu' : X.A.units + 1 + min (PyData.depthAll qs) p.depth < cLine := by have := Nat.min_le_right (PyData.depthAll qs) p.depth; unfold DEEP at hd; omega
        rcases r2 with ⟨bs, r2⟩ | ⟨bs, r2⟩
        · exact SeqAt.in_list_reads r2 r1 c2 c1 hu' (by rw [e']; exact ⟨.bl t, H, I, rfl, q⟩)
        · exact SeqAt.in_tuple_reads r2 r1 c2 c1 hu' (by rw [e']; exact ⟨.bl t, H, I, rfl, q⟩)
    · cases e
  · cases e
theorem c_notinL (hu : X.A.units + 100 < cLine) : CmpOk X .NotIn notInL := by
  refine ⟨rP X.K notInL, fun pins s σ H x y v u Q I rx ry h => ?_, ok_P notInL_bl⟩
  obtain ⟨dx, dy, t, hx, hy, e, q⟩ := h
  unfold notInL at e
  split at e
  · rename_i p qs e1 e2
    split at e
    · rename_i hd
      have e' : (!qs.any fun q => q.eqv p) = t := by injection e with e; injection e with _ e; injection e
      cases q1 : itemsD dy with
      | none => rw [q1] at e2; cases e2
      | some xs =>
        rw [q1] at e2
        obtain ⟨as, r1, c1⟩ := hx.reads I rx e1
        obtain ⟨c2, r2⟩ := items_reads I hy ry q1 e2
        have hu' : X.A.units + 1 + min (PyData.depthAll qs) p.depth < cLine := by have := Nat.min_le_right (PyData.depthAll qs) p.depth; unfold DEEP at hd; omega
        rcases r2 with ⟨bs, r2⟩ | ⟨bs, r2⟩
        · exact SeqAt.notIn_list_reads r2 r1 c2 c1 hu' (by rw [e']; exact ⟨.bl t, H, I, rfl, q⟩)
        · exact SeqAt.notIn_tuple_reads r2 r1 c2 c1 hu' (by rw [e']; exact ⟨.bl t, H, I, rfl, q⟩)
    · cases e
  · cases e
end
theorem room_u {k : Nat} {A : Around} (hr : Room k A) : A.units + 100 < cLine := by have := hr.un; omega
end L3
set_option Elab.async false
set_option linter.all false
set_option maxRecDepth 100000
namespace L3
open PySem L2
noncomputable def tyN : D → Option String
  | .non => some "NoneType"
  | .bl _ => some "bool"
  | .int _ => some "int"
  | .str _ => some "str"
  | .tup _ => some "tuple"
  | .lst _ => some "list"
  | .dK _ _ => some "dict"
  | .dT _ _ => some "dict"
  | _ => none
noncomputable def isT (T : String) : D → Bool
  | .bl _ => T == "bool" || T == "int"
  | .int _ => T == "int"
  | .str _ => T == "str"
  | .tup _ => T == "tuple"
  | .lst _ => T == "list"
  | .dK _ _ => T == "dict"
  | .dT _ _ => T == "dict"
  | _ => false
noncomputable def tysOk : List String := ["int", "bool", "str", "tuple", "list", "dict"]
noncomputable def isiD : GN
  | [d, .ty T] => if (tyN d).isSome = true ∧ T ∈ tysOk then some (.fz, .bl (isT T d)) else none
  | _ => none
section
variable {K : PySem.W.Frag} {X : Cx}
theorem kit_ok {d : D} {t T : String} (h : tyN d = some t) (hT : T ∈ tysOk) : PySem.W.kitOne K (.type t) (.type T) = some (isT T d) := by
  simp only [tysOk, List.mem_cons, List.not_mem_nil, or_false] at hT
  cases d <;> simp only [tyN] at h <;> cases h <;> (rcases hT with rfl | rfl | rfl | rfl | rfl | rfl <;> rfl)
noncomputable def rIsi (K : PySem.W.Frag) : List V → Hp → VK → Prop := fun xs H Q => ∃ x tn T b, xs = [x, .ty T] ∧ TyOf K H x (.type tn) ∧ PySem.W.kitOne K (.type tn) (.type T) = some b ∧ Q (.bl b) H
theorem call_isi : CallR X (.builtin "isinstance") (rIsi X.K) := by
  intro pins s σ H xs us Q I r h
  obtain ⟨x, tn, T, b, rfl, ty, e, q⟩ := h
  obtain ⟨u, w', rfl, rx, rw'⟩ := vals2 r
  cases rw'
  exact isinst_ok I rx ty e fun tk => ⟨.bl b, H, I.tok tk, rfl, q⟩
theorem RdV.tyOf {F H : Hp} {d : D} {v : V} {t : String} (s : Same F H) (h : RdV K F H d v) (e : tyN d = some t) : TyOf K H v (.type t) := by
  cases d <;> simp only [tyN] at e <;> cases e
  · rw [h.non]; exact .non
  · rw [h.bl]; exact .bl _
  · rw [h.int]; exact .int _
  · rw [h.str]; exact .str _
  · obtain ⟨a, vs, rfl, h1, _⟩ := h.tup s; exact .tup h1
  · obtain ⟨a, vs, rfl, h1, _⟩ := h.lst s; exact .lst h1
  · rcases h with h | ⟨a, rfl, vs, h1, _⟩
    · rw [Rep] at h; obtain ⟨a, vs, rfl, h1, _⟩ := h; exact .dK (s _ _ h1)
    · exact .dK h1
  · rcases h with h | ⟨a, rfl, vs, h1, _⟩
    · rw [Rep] at h; obtain ⟨a, vs, rfl, h1, _⟩ := h; exact .dT (s _ _ h1)
    · exact .dT h1
theorem ok_isi : OkCall K (rIsi K) isiD := by
  intro F H ds vs k d Q s r e q
  unfold isiD at e
  split at e
  · rename_i d0 T
    split at e
    · rename_i hc
      cases e
      obtain ⟨v, _, rfl, rx, u, _, rfl, ry, rfl⟩ := r
      obtain ⟨t, ht⟩ := Option.isSome_iff_exists.mp hc.1
      exact ⟨v, t, T, _, by rw [ry.ty], rx.tyOf s ht, kit_ok ht hc.2, q F _ H (.pure (.refl s) (by rw [Rep]))⟩
    · cases e
  · cases e
variable {F0 H0 : Hp} {Ψ : Psi} {a b c e : Expr} {es : List Expr} {f f1 f2 f3 : Ev → R} {fs : Ev → RA} {pos p : Pos}
theorem v_ty {T : String} {x : Str} (hm : X.mg x = none) (hv : bootBuiltins x = some (.type T) := by rfl) (hg : Gl X x := by rfl) (hn : x ≠ "__name__" := by decide) (hd : (x == ("__debug__" : Str)) = false := by decide) : VE X F0 H0 Ψ (.Name x pos) (conR (.ty T)) :=
  (pe_bltn (v := .ty T) hg hm hv rfl hn hd).mono fun _ _ _ h => tC_of (by rw [Rep]) h
theorem v_isi (hm : X.mg "isinstance" = none) (ha : VA X F0 H0 Ψ (e :: es) fs) (hgl : Gl X "isinstance" := by rfl) (he : starEach (e :: es) X.env = (false, eval e X.env) :: starEach es X.env := by rfl) (hpl : (backTo pos (starEach es X.env)).any (·.1) = false := by rfl) : VE X F0 H0 Ψ (.Call (.Name "isinstance" p) (e :: es) [] pos) (eCall isiD fs) := v_callB call_isi ok_isi hm (by rfl) ha hgl (by decide) (by decide) he hpl
theorem v_min2 (hc : X.calm = true) (hm : X.mg "min" = none) (ha : VA X F0 H0 Ψ (e :: es) fs) (hgl : Gl X "min" := by rfl) (he : starEach (e :: es) X.env = (false, eval e X.env) :: starEach es X.env := by rfl) (hpl : (backTo pos (starEach es X.env)).any (·.1) = false := by rfl) : VE X F0 H0 Ψ (.Call (.Name "min" p) (e :: es) [] pos) (eCall min2D fs) := v_callB (call_min2 hc) ok_min2 hm (by rfl) ha hgl (by decide) (by decide) he hpl
end
end L3
set_option Elab.async false
set_option linter.all false
set_option maxRecDepth 100000
namespace L3
open PySem L2
section
variable {κ : Type} [DecidableEq κ]
noncomputable def dGet : List κ → List D → κ → Option D
  | k :: ks, x :: xs, q => if k = q then some x else dGet ks xs q
  | _, _, _ => none
variable {K : PySem.W.Frag} {F : Hp}
theorem val_get {k : κ} : ∀ {ks : List κ} {xs : List D} {vs : List V}, Reps K F xs vs → ks.length = vs.length → match dGet ks xs k with
    | some d => ∃ v, valV (ks.zip vs) k = some v ∧ Rep K F d v
    | none => valV (ks.zip vs) k = none
  | [], xs, vs, _, _ => by simp [dGet, valV_nil]
  | q :: ks, [], vs, r, h => by rw [r.unnil] at h; simp at h
  | q :: ks, x :: xs, _, r, h => by
    obtain ⟨v, vs, rfl, rv, rs⟩ := r.uncons
    rw [dGet, List.zip_cons_cons]
    by_cases e : q = k
    · rw [if_pos e, valV_pos e]; exact ⟨v, rfl, rv⟩
    · rw [if_neg e, valV_neg e]; exact val_get rs (by simpa using h)
theorem val_some {k : κ} {ks : List κ} {xs : List D} {vs : List V} {d : D} (r : Reps K F xs vs) (h : ks.length = vs.length) (e : dGet ks xs k = some d) : ∃ v, valV (ks.zip vs) k = some v ∧ Rep K F d v := by
  have := val_get (k := k) r h
  rw [e] at this; exact this
theorem val_isSome {k : κ} {ks : List κ} {xs : List D} {vs : List V} (r : Reps K F xs vs) (h : ks.length = vs.length) : (valV (ks.zip vs) k).isSome = (dGet ks xs k).isSome := by
  have := val_get (k := k) r h
  cases e : dGet ks xs k with
  | none => rw [e] at this; rw [this]; rfl
  | some d => rw [e] at this; obtain ⟨v, e, _⟩ := this; rw [e]; rfl
end
noncomputable def keyD : D → Option Key
  | .int i => some (.inl i)
  | .str x => some (.inr x)
  | _ => none
noncomputable def keysD : List D → Option (List Key)
  | [] => some []
  | d :: ds => (keyD d).bind fun k => (keysD ds).map (k :: ·)
section
variable {K : PySem.W.Frag} {F H : Hp}
theorem key_is {d : D} {k : Key} {v : V} (e : keyD d = some k) (r : RdV K F H d v) : v = kV k := by
  cases d <;> simp only [keyD] at e <;> cases e
  · rw [r.int]; rfl
  · rw [r.str]; rfl
theorem keys_are : ∀ {ds : List D} {ks : List Key} {vs : List V}, keysD ds = some ks → Reps K F ds vs → vs = ks.map kV
  | [], _, _, e, r => by cases e; rw [r.unnil]; rfl
  | d :: ds, ks, _, e, r => by
    obtain ⟨v, vs, rfl, rv, rs⟩ := r.uncons
    simp only [keysD] at e
    cases e1 : keyD d with
    | none => rw [e1] at e; cases e
    | some k =>
      rw [e1] at e
      cases e2 : keysD ds with
      | none => rw [e2] at e; cases e
      | some ks' =>
        rw [e2] at e; cases e
        rw [keys_are e2 rs, key_is (H := F) e1 (.inl rv)]; rfl
theorem RdV.dK {ks : List Key} {xs : List D} {v : V} (s : Same F H) (h : RdV K F H (.dK ks xs) v) : ∃ a vs, v = .ref a ∧ H a = some (.dK (ks.zip vs)) ∧ ks.length = vs.length ∧ Reps K F xs vs := by
  rcases h with h | ⟨a, h1, vs, h⟩
  · rw [Rep] at h
    obtain ⟨a, vs, h1, h2, h3⟩ := h
    exact ⟨a, vs, h1, s _ _ h2, h3⟩
  · exact ⟨a, vs, h1, h⟩
theorem RdV.dT {ks : List (List Key)} {xs : List D} {v : V} (s : Same F H) (h : RdV K F H (.dT ks xs) v) : ∃ a vs, v = .ref a ∧ H a = some (.dT (ks.zip vs)) ∧ ks.length = vs.length ∧ Reps K F xs vs := by
  rcases h with h | ⟨a, h1, vs, h⟩
  · rw [Rep] at h
    obtain ⟨a, vs, h1, h2, h3⟩ := h
    exact ⟨a, vs, h1, s _ _ h2, h3⟩
  · exact ⟨a, vs, h1, h⟩
noncomputable def lookD : D → D → Option (Option D)
  | .dK ks xs, d => (keyD d).map (dGet ks xs)
  | .dT ks xs, .tup l => (keysD l).map (dGet ks xs)
  | _, _ => none
theorem look_get {a b : D} {o : Option D} {x y : V} (s : Same F H) (e : lookD a b = some o) (rx : RdV K F H a x) (ry : RdV K F H b y) : ∃ p ov, x = .ref p ∧ DGet H p y ov ∧ (∀ d, o = some d → ∃ v, ov = some v ∧ Rep K F d v) ∧ ov.isSome = o.isSome := by
  cases a with
  | dK ks xs =>
    obtain ⟨p, vs, rfl, h1, h2, h3⟩ := rx.dK s
    simp only [lookD] at e
    cases e1 : keyD b with
    | none => rw [e1] at e; cases e
    | some k =>
      rw [e1] at e; cases e
      rw [key_is e1 ry]
      exact ⟨p, _, rfl, .k h1, fun d e => val_some h3 h2 e, val_isSome h3 h2⟩
  | dT ks xs =>
    obtain ⟨p, vs, rfl, h1, h2, h3⟩ := rx.dT s
    cases b with
    | tup l =>
      simp only [lookD] at e
      cases e1 : keysD l with
      | none => rw [e1] at e; cases e
      | some k =>
        rw [e1] at e; cases e
        obtain ⟨q, us, rfl, g1, g2⟩ := ry.tup s
        rw [keys_are e1 g2] at g1
        exact ⟨p, _, rfl, .t h1 g1, fun d e => val_some h3 h2 e, val_isSome h3 h2⟩
    | _ => cases e
  | _ => cases e
noncomputable def getK : G2 := fun a b => match lookD a b with
  | some (some d) => some (.fz, d)
  | _ => none
noncomputable def rDGet : R2 := fun x y H Q => ∃ a v, x = .ref a ∧ DGet H a y (some v) ∧ Q v H
theorem ok_getK : OkOp K rDGet getK := by
  intro F H dx dy x y k d Q s rx ry e q
  unfold getK at e
  split at e
  · rename_i d' e1
    cases e
    obtain ⟨p, ov, rfl, g, h, _⟩ := look_get s e1 rx ry
    obtain ⟨v, rfl, rv⟩ := h d rfl
    exact ⟨p, v, rfl, g, q F v H (.pure (.refl s) rv)⟩
  · cases e
variable {X : Cx}
open PySem.Spec PyProof.Rows in
theorem ix_dict (hu : X.A.units + 1 < cLine) : IxR X rDGet := by
  intro value slice pins s σ H x y v u Q I rx ry h hs
  obtain ⟨a, w', rfl, g, q⟩ := h
  obtain rfl : v = Value.ref a := rx
  have hT := dict_typeIs I g
  unfold subscriptTail
  refine wpAny_bind ?_
  rw [getitemInPython_of_ne hT.not_modules]
  refine wpAny_bind (wpAny_specialOf hT PySem.F.slot_dict_getitem.lookup ?_)
  have fin : wpAny (model X.prog X.w) X.A (subscripted slice false (.ref a) u) (fun r s₃ => wpAny (model X.prog X.w) X.A (letTemporaryGo value (.ref a) r >>= fun _ => pure r) (EP X pins σ Q) X.xe s₃) X.xe s := by
    rw [hs]
    exact wpAny_operating (wpAny_mono (d_getItem hu I g ry fun w'' s' I' rw' => (⟨w', H, I', rw', q⟩ : EP X pins σ Q w'' s')) (fun r s₃ h₃ => wpAny_bind (wpAny_letTemporaryGo (wpAny_pure h₃))) fun _ _ x => x)
  first
    | exact wpAny_pure (wpAny_bind fin)
    | exact wpAny_bind (wpAny_pure (wpAny_bind fin))
    | exact wpAny_bind fin
noncomputable def idxD : G2 := fun a b => (idxL a b).or (getK a b)
theorem v_idx {F0 H0 : Hp} {Ψ : Psi} {a b : Expr} {f1 f2 : Ev → R} {pos : Pos} (hu : X.A.units + 100 < cLine) (ha : VE X F0 H0 Ψ a f1) (hb : VE X F0 H0 Ψ b f2) (hs : PlainIx b := by exact fun _ _ => rfl) : VE X F0 H0 Ψ (.Subscript a b pos) (eOp idxD f1 f2) := (pe_ix (ix_seq.or (ix_dict (by omega))) ha hb hs).mono fun _ _ _ h => tOp_of (ok_idxL.or ok_getK) h
noncomputable def hasK : G2 := fun a b => (lookD b a).map fun o => (.fz, .bl o.isSome)
noncomputable def hasNotK : G2 := fun a b => (lookD b a).map fun o => (.fz, .bl !o.isSome)
theorem ok_hasK : OkOp K (fun y x H Q => ∃ a o, x = .ref a ∧ DGet H a y o ∧ Q (.bl o.isSome) H) hasK := by
  intro F H dx dy x y k d Q s rx ry e q
  unfold hasK at e
  cases e1 : lookD dy dx with
  | none => rw [e1] at e; cases e
  | some o =>
    rw [e1] at e; cases e
    obtain ⟨p, ov, rfl, g, _, h⟩ := look_get s e1 ry rx
    exact ⟨p, ov, rfl, g, by rw [h]; exact q F _ H (.pure (.refl s) (by rw [Rep]))⟩
theorem ok_hasNotK : OkOp K (fun y x H Q => ∃ a o, x = .ref a ∧ DGet H a y o ∧ Q (.bl (!o.isSome)) H) hasNotK := by
  intro F H dx dy x y k d Q s rx ry e q
  unfold hasNotK at e
  cases e1 : lookD dy dx with
  | none => rw [e1] at e; cases e
  | some o =>
    rw [e1] at e; cases e
    obtain ⟨p, ov, rfl, g, _, h⟩ := look_get s e1 ry rx
    exact ⟨p, ov, rfl, g, by rw [h]; exact q F _ H (.pure (.refl s) (by rw [Rep]))⟩
theorem OpR.or' {f : Value → Value → Sem Value} {r r' : R2} (h : OpR X f r) (h' : OpR X f r') : OpR X f (fun x y H Q => r x y H Q ∨ r' x y H Q) := by
  intro pins s σ H x y v u Q I rx ry q
  rcases q with q | q
  · exact h pins s σ H x y v u Q I rx ry q
  · exact h' pins s σ H x y v u Q I rx ry q
theorem op_hasK (hu : X.A.units + 1 < cLine) : OpR X (compareOp .In) (fun y x H Q => ∃ a o, x = .ref a ∧ DGet H a y o ∧ Q (.bl o.isSome) H) := by
  intro pins s σ H x y v u Q I rx ry h
  obtain ⟨a, o, rfl, g, q⟩ := h
  obtain rfl : u = Value.ref a := ry
  exact d_in hu I g rx fun s' I' => ⟨.bl o.isSome, H, I', rfl, q⟩
theorem op_hasNotK (hu : X.A.units + 1 < cLine) : OpR X (compareOp .NotIn) (fun y x H Q => ∃ a o, x = .ref a ∧ DGet H a y o ∧ Q (.bl (!o.isSome)) H) := by
  intro pins s σ H x y v u Q I rx ry h
  obtain ⟨a, o, rfl, g, q⟩ := h
  obtain rfl : u = Value.ref a := ry
  exact d_notIn hu I g rx fun s' I' => ⟨.bl (!o.isSome), H, I', rfl, q⟩
noncomputable def inD : G2 := fun a b => (inL a b).or (hasK a b)
noncomputable def notInD : G2 := fun a b => (notInL a b).or (hasNotK a b)
theorem c_in (hu : X.A.units + 100 < cLine) : CmpOk X .In inD := let ⟨_, h1, h2⟩ := c_inL hu; ⟨_, OpR.or' h1 (op_hasK (by omega)), h2.or ok_hasK⟩
theorem c_notin (hu : X.A.units + 100 < cLine) : CmpOk X .NotIn notInD := let ⟨_, h1, h2⟩ := c_notinL hu; ⟨_, OpR.or' h1 (op_hasNotK (by omega)), h2.or ok_hasNotK⟩
variable {F0 H0 : Hp} {Ψ : Psi} {σ : St} {pos : Pos}
end
end L3
set_option Elab.async false
set_option linter.all false
set_option maxRecDepth 100000
namespace L3
open PySem L2
section
variable {X : Cx} {K : PySem.W.Frag} {F0 H0 F H F' H' : Hp} {Ψ : Psi} {σ : St} {ev : Ev}
variable {e i' : Expr} {f v : Ev → R} {x : Str} {p apos cpos pos : Pos}
noncomputable abbrev G1 := D → Option (Kd × D)
noncomputable def un1 (g : G1) : R → R
  | .ok _ a => toR (g a)
  | r => r
noncomputable def eUn (g : G1) (f : Ev → R) (ev : Ev) : R := un1 g (f ev)
noncomputable def negD : G1
  | .int i => some (.fz, .int (-i))
  | _ => none
theorem v_neg {a : Expr} (ha : VE X F0 H0 Ψ a f) : VE X F0 H0 Ψ (.UnaryOp .USub a pos) (eUn negD f) := (pe_un un_neg ha).mono fun σ H Q h => by
  obtain ⟨F, ev, fi, m⟩ := h
  refine ⟨F, ev, fi, ?_⟩
  simp only [eUn] at m
  cases h1 : f ev with
  | no => rw [h1] at m; exact m
  | ex C => rw [h1] at m; exact m
  | ok k d =>
    rw [h1] at m
    intro F1 x H1 p1
    simp only [un1] at m
    cases d with
    | int i => exact ⟨i, p1.val.rd.int, m F1 _ H1 ⟨p1.st, by rw [Val, Rep]⟩⟩
    | _ => exact m.elim
noncomputable def absD : GN
  | [.int i] => some (.fz, .int (if i < 0 then -i else i))
  | _ => none
theorem ok_abs : OkCall K (fun xs H Q => ∃ i, xs = [.int i] ∧ Q (.int (if i < 0 then -i else i)) H) absD := by
  intro F H ds vs k d Q s r e q
  unfold absD at e
  split at e
  · rename_i i
    cases e
    obtain ⟨v, _, rfl, rx, rfl⟩ := r
    exact ⟨i, by rw [rx.int], q F _ H (.pure (.refl s) (by rw [Rep]))⟩
  · cases e
theorem v_abs {es : List Expr} {fs : Ev → RA} {p : Pos} (hm : X.mg "abs" = none) (ha : VA X F0 H0 Ψ (e :: es) fs) (hgl : Gl X "abs" := by rfl) (he : starEach (e :: es) X.env = (false, eval e X.env) :: starEach es X.env := by rfl) (hpl : (backTo pos (starEach es X.env)).any (·.1) = false := by rfl) : VE X F0 H0 Ψ (.Call (.Name "abs" p) (e :: es) [] pos) (eCall absD fs) := v_callB call_abs ok_abs hm (by rfl) ha hgl (by decide) (by decide) he hpl
end
end L3
set_option Elab.async false
set_option linter.all false
set_option maxRecDepth 100000
namespace L2
open PySem PySem.Spec PyProof.Rows
section
variable {X : Cx} {e st : Expr} {te ts : TE} {pos p2 : Pos}
noncomputable def rStep (K : PySem.W.Frag) : V → V → Hp → VK → Prop := fun x k H Q => ∃ a xs, x = .ref a ∧ SqL K H a xs ∧ ((k = .int 1 ∧ ∀ p, H p = none → Q (.ref p) (upd H p (.lst xs))) ∨ (k = .int (-1) ∧ ∀ p, H p = none → Q (.ref p) (upd H p (.lst xs.reverse))))
theorem pick_one (items : Array Value) : slicePick items none none (some 1) = items := by
  have h := slicePick_plain items none none
  have e : slicePick items none none (some 1) = slicePick items none none none := rfl
  rw [e, h]
  simp
  rw [List.take_of_length_le (by simp)]
theorem pe_step (he : PE X e te) (hk : PE X st ts) : PE X (.Subscript e (.Slice none none (some st) p2) pos) (tOp (rStep X.K) te ts) := by
  intro pins s σ H Q I h
  refine Subscript_ (thn (he pins s σ H _ I h) fun v s1 ⟨x, H1, I1, r1, q1⟩ => ?_)
  refine wpAny_Slice ?_
  rw [evalPart_none]
  refine wpAny_pure (wpAny_pure ?_)
  rw [evalPart_some]
  refine thn (hk pins s1 σ H1 _ I1 q1) fun vk s3 ⟨k, H3, I3, rk, q3⟩ => ?_
  have I4 : Inv X pins σ H3 { s3 with heap := s3.heap.push { cls := .type "slice", data := .fields #[.none, .none, vk] } } := I3.kept (t' := s3.toks) fun b ob q => Heap.get?_push_of_some _ q
  obtain ⟨a, xs, rfl, hx, q⟩ := q3
  cases r1
  obtain ⟨its, r, ht, hz⟩ := I4.list hx
  have hlen := r.length
  show wpAny (model X.prog X.w) X.A (subscriptTail e (.Slice none none (some st) p2) (.ref a) (.ref s3.heap.objs.size)) (EP X pins σ Q) X.xe { s3 with heap := s3.heap.push { cls := .type "slice", data := .fields #[.none, .none, vk] } }
  refine tail_any (ops := [.ref a, .ref s3.heap.objs.size]) ht.isList.typeIs slot_list_getitem.lookup ?_ (by with_unfolding_all rfl)
  rcases q with ⟨rfl, q⟩ | ⟨rfl, q⟩ <;> obtain ⟨t, rfl⟩ := rk
  · refine wpAny_getItem_list_slice ht.isList (Heap.IsSliceOf.new ..) .none .none (.int 1 t) (by simp) ?_ (by rw [List.size_toArray] <;> omega)
    rw [pick_one]
    refine ⟨.ref _, _, I4.laid (t' := s3.toks) (o := .lst xs) (fun b ob q => Heap.get?_push_of_some _ q) (Nat.le_refl _) ?_, rfl, q _ (I4.hok.fresh (Nat.le_refl _))⟩
    exact ⟨hz, _, 0, r, Heap.get?_push_size _ rfl⟩
  · refine wpAny_getItem_list_slice ht.isList (Heap.IsSliceOf.new ..) .none .none (.int (-1) t) (by simp) ?_ (by rw [List.size_toArray] <;> omega)
    rw [PySem.W.krv_pick]
    refine ⟨.ref _, _, I4.laid (t' := s3.toks) (o := .lst xs.reverse) (fun b ob q => Heap.get?_push_of_some _ q) (Nat.le_refl _) ?_, rfl, q _ (I4.hok.fresh (Nat.le_refl _))⟩
    exact ⟨by simpa using hz, _, 0, r.reverse, Heap.get?_push_size _ rfl⟩
end
end L2
namespace L3
open PySem L2
section
variable {X : Cx} {K : PySem.W.Frag} {F0 H0 F H F' H' : Hp} {Ψ : Psi} {σ : St} {ev : Ev}
theorem Reps.rev : ∀ {ds : List D} {vs : List V}, Reps K F ds vs → Reps K F ds.reverse vs.reverse
  | [], _, h => by rw [h.unnil]; exact .nil
  | _ :: _, _, h => by obtain ⟨v, r, rfl, h1, h2⟩ := h.uncons; rw [List.reverse_cons, List.reverse_cons]; exact h2.rev.app (.cons h1 .nil)
noncomputable def stepD : G2
  | .lst xs, .int k => if k = 1 then some (.ow, .lst xs) else if k = -1 then some (.ow, .lst xs.reverse) else none
  | .scr xs, .int k => if k = 1 then some (.ow, .lst xs) else if k = -1 then some (.ow, .lst xs.reverse) else none
  | _, _ => none
theorem ok_step : OkOp K (rStep K) stepD := by
  intro F H dx dy x y k d Q s rx ry e q
  have go : ∀ (xs : List D) (i : Int) (a : Addr) (vs : List V), SqL K H a vs → Reps K F xs vs → y = .int i → (if i = 1 then some (Kd.ow, D.lst xs) else if i = -1 then some (.ow, .lst xs.reverse) else none) = some (k, d) → rStep K (.ref a) y H Q := fun xs i a vs hs hr hy e => by
    split at e
    · rename_i h1; cases e; subst h1
      exact ⟨a, vs, rfl, hs, .inl ⟨hy, fun p hp => q F _ _ (Post.own (.refl s) hp fun H2 e => ⟨_, e, hr⟩)⟩⟩
    · split at e
      · rename_i h1; cases e; subst h1
        exact ⟨a, vs, rfl, hs, .inr ⟨hy, fun p hp => q F _ _ (Post.own (.refl s) hp fun H2 e => ⟨_, e, hr.rev⟩)⟩⟩
      · cases e
  unfold stepD at e
  split at e <;> first | (cases e; done) | skip
  · obtain ⟨a, vs, rfl, h1, h2⟩ := rx.lst s
    exact go _ _ a vs (SqL.of h1) h2 ry.int e
  · obtain ⟨a, vs, rfl, h1, h2⟩ := rx.scr s
    exact go _ _ a vs h1 h2 ry.int e
theorem v_step {a st : Expr} {f1 f2 : Ev → R} {p2 pos : Pos} (ha : VE X F0 H0 Ψ a f1) (hb : VE X F0 H0 Ψ st f2) : VE X F0 H0 Ψ (.Subscript a (.Slice none none (some st) p2) pos) (eOp stepD f1 f2) := (pe_step ha hb).mono fun _ _ _ h => tOp_of ok_step h
noncomputable def cutG {α : Type} (xs : List α) (lo hi : Option Int) : List α := (xs.drop (HT.sIx xs.length 0 lo)).take (HT.sIx xs.length xs.length hi - HT.sIx xs.length 0 lo)
theorem Reps.cut {ds : List D} {vs : List V} (r : Reps K F ds vs) (lo hi : Option Int) : Reps K F (cutG ds lo hi) (cutV vs lo hi) := by
  unfold cutG cutV
  rw [r.length]
  exact (r.drop _).take _
noncomputable def slD : D → Option Int → Option Int → Option (Kd × D)
  | .lst xs, lo, hi => some (.ow, .lst (cutG xs lo hi))
  | .scr xs, lo, hi => some (.ow, .lst (cutG xs lo hi))
  | .tup xs, lo, hi => if ¬ (HT.sIx xs.length 0 lo = 0 ∧ HT.sIx xs.length xs.length hi = xs.length) then some (.fz, .tup (cutG xs lo hi)) else none
  | _, _, _ => none
inductive RO where | ok (o : Option Int) | ex (C : Addr) | no
noncomputable def oNo (_ : Ev) : RO := .ok none
noncomputable def oS : R → RO
  | .ok _ (.int i) => .ok (some i)
  | .ex C => .ex C
  | _ => .no
noncomputable def oSome (f : Ev → R) (ev : Ev) : RO := oS (f ev)
noncomputable def tVO (K : PySem.W.Frag) (F0 H0 : Hp) (Ψ : Psi) (f : Ev → RO) : TO := fun σ H Q => ∃ F ev, FI K F0 H0 F H ev σ ∧ match f ev with
  | .ok o => ∀ F' H', Step F H F' H' → Q o H'
  | .ex C => ∀ F' H', Step F0 H0 F' H' → Ψ C H'
  | .no => False
noncomputable def VO (X : Cx) (F0 H0 : Hp) (Ψ : Psi) (e : Option Expr) (f : Ev → RO) : Prop := PO X e (tVO X.K F0 H0 Ψ f)
theorem PO.mono' {e : Option Expr} {t t' : TO} (h : PO X e t) (i : ∀ σ H Q, t' σ H Q → t σ H Q) : PO X e t' := fun pins s σ H Q I q => h pins s σ H Q I (i σ H Q q)
theorem vo_none : VO X F0 H0 Ψ none oNo := PO.mono' po_none fun σ H Q h => by
  obtain ⟨F, ev, fi, m⟩ := h
  exact m F H fi.refl
theorem vo_some {e : Expr} {f : Ev → R} (h : VE X F0 H0 Ψ e f) : VO X F0 H0 Ψ (some e) (oSome f) := PO.mono' (po_some h) fun σ H Q h => by
  obtain ⟨F, ev, fi, m⟩ := h
  refine ⟨F, ev, fi, ?_⟩
  simp only [oSome] at m
  cases h1 : f ev with
  | no => rw [h1] at m; exact m
  | ex C => rw [h1] at m; exact m
  | ok k d =>
    rw [h1] at m
    intro F1 x H1 p
    cases d with
    | int i => exact ⟨i, p.val.rd.int, m F1 H1 p.st⟩
    | _ => exact m.elim
noncomputable def slR (r : R) (lo hi : RO) : R := match r with
  | .ok _ d => match lo with
    | .ok l => match hi with
      | .ok h => toR (slD d l h)
      | .ex C => .ex C
      | .no => .no
    | .ex C => .ex C
    | .no => .no
  | r => r
noncomputable def eSl (f : Ev → R) (fl fh : Ev → RO) (ev : Ev) : R := slR (f ev) (fl ev) (fh ev)
theorem v_sl {e : Expr} {lo hi : Option Expr} {f : Ev → R} {fl fh : Ev → RO} {p2 pos : Pos} (he : VE X F0 H0 Ψ e f) (hl : VO X F0 H0 Ψ lo fl) (hh : VO X F0 H0 Ψ hi fh) : VE X F0 H0 Ψ (.Subscript e (.Slice lo hi none p2) pos) (eSl f fl fh) :=
  (pe_slice (sl_list.or sl_tup) he hl hh).mono fun σ H Q h => by
    obtain ⟨F, ev, fi, m⟩ := h
    refine ⟨F, ev, fi, ?_⟩
    simp only [eSl] at m
    cases h1 : f ev with
    | no => rw [h1] at m; exact m
    | ex C => rw [h1] at m; exact m
    | ok k d =>
      rw [h1] at m
      intro F1 x H1 p1
      refine ⟨F1, ev, fi.later p1.st, ?_⟩
      simp only [slR] at m
      cases h2 : fl ev with
      | no => rw [h2] at m; exact m
      | ex C => rw [h2] at m; exact m
      | ok l =>
        rw [h2] at m
        intro F2 H2 s2
        refine ⟨F2, ev, (fi.later p1.st).later s2, ?_⟩
        cases h3 : fh ev with
        | no => rw [h3] at m; exact m
        | ex C => rw [h3] at m; exact m
        | ok hh' =>
          rw [h3] at m
          intro F3 H3 s3
          have m : match toR (slD d l hh') with
            | .ok k d => ∀ F' v H', Post X.K F H k d F' v H' → Q v H'
            | .ex C => ∀ F' H', Step F0 H0 F' H' → Ψ C H'
            | .no => False := m
          have st := (p1.st.trans s2).trans s3
          have rx := (p1.val.rd.later s2).later s3
          cases d with
          | lst xs =>
            obtain ⟨a, vs, rfl, h4, h5⟩ := rx.lst st.sub
            refine .inl ⟨a, vs, rfl, SqL.of h4, fun p hp => m F3 _ _ (Post.own st hp fun H2 e => ⟨_, e, h5.cut _ _⟩)⟩
          | scr xs =>
            obtain ⟨a, vs, rfl, h4, h5⟩ := rx.scr st.sub
            refine .inl ⟨a, vs, rfl, h4, fun p hp => m F3 _ _ (Post.own st hp fun H2 e => ⟨_, e, h5.cut _ _⟩)⟩
          | tup xs =>
            obtain ⟨a, vs, rfl, h4, h5⟩ := rx.tup st.sub
            simp only [slD] at m
            split at m
            · rename_i k' d' e'
              split at e'
              · rename_i hw
                cases e'
                refine .inr ⟨a, vs, rfl, SqT.of h4, by rw [← h5.length]; exact hw, fun p hp => ?_⟩
                obtain ⟨F4, p4⟩ := Post.made (K := X.K) (d := .tup (cutG xs l hh')) (o := .tup (cutV vs l hh')) st hp fun F2 up e => by rw [Rep]; exact ⟨p, _, rfl, e, (h5.cut l hh').mono up⟩
                exact m F4 _ _ p4
              · cases e'
            · rename_i e'; split at e' <;> cases e'
            · exact m.elim
          | _ => exact m.elim
noncomputable def mulS : G2
  | .str x, .int n => if 0 ≤ n ∧ n ≤ 1000 ∧ x.length ≤ 1000 then some (.fz, .str (Txt.mul x n)) else none
  | _, _ => none
noncomputable def rMulS : R2 := fun x y H Q => ∃ z n, x = .str z ∧ y = .int n ∧ 0 ≤ n ∧ n ≤ 1000 ∧ z.length ≤ 1000 ∧ Q (.str (Txt.mul z n)) H
theorem mulOk_small {x : Str} {n : Int} (h0 : 0 ≤ n) (h1 : n ≤ 1000) (hx : x.length ≤ 1000) : MulOk x n := by
  refine ⟨?_, fun hn _ => ?_, fun hn _ => ?_⟩
  · simp; omega
  · have h2 : (x.length : Int) ≤ 1000 := by omega
    have h3 : (2 ^ 63 - 1 : Int) / n ≥ 1000 := by
      refine Int.le_ediv_of_mul_le (by omega) ?_
      have : (1000 : Int) * n ≤ 1000 * 1000 := Int.mul_le_mul_of_nonneg_left h1 (by decide)
      omega
    omega
  · have h2 : x.length * n.toNat ≤ 1000 * 1000 := Nat.mul_le_mul hx (by omega)
    simp only [Builtin.Str.tooLong]
    have := sizeLine_ge
    simp
    omega
theorem op_mulS : OpR X (binaryOp .Mult) rMulS := by
  intro pins s σ H x y v u Q I rx ry h
  obtain ⟨z, n, rfl, rfl, h0, h1, hz, q⟩ := h
  obtain ⟨t, rfl⟩ := rx
  obtain ⟨t', rfl⟩ := ry
  exact SB.mul (mulOk_small h0 h1 hz) fun t'' k => ⟨.str (Txt.mul z n), H, I.tok k, ⟨t'', rfl⟩, q⟩
theorem ok_mulS : OkOp K rMulS mulS := by
  intro F H dx dy x y k d Q s rx ry e q
  unfold mulS at e
  split at e <;> first | (cases e; done) | skip
  rename_i z n
  split at e
  · rename_i hc
    cases e
    exact ⟨z, n, rx.str, ry.int, hc.1, hc.2.1, hc.2.2, q F _ H (.pure (.refl s) (by rw [Rep]))⟩
  · cases e
noncomputable def mulD : G2 := fun a b => (mulL a b).or (mulS a b)
theorem v_mul {a b : Expr} {f1 f2 : Ev → R} {pos : Pos} (ha : VE X F0 H0 Ψ a f1) (hb : VE X F0 H0 Ψ b f2) : VE X F0 H0 Ψ (.BinOp a .Mult b pos) (eOp mulD f1 f2) := v_bin (OpR.or' op_mul2 op_mulS) (ok_mulL.or ok_mulS) ha hb
noncomputable def lenD : GN := lenL
theorem v_len {e : Expr} {fs : Ev → RA} {p pos : Pos} (hm : X.mg "len" = none) (ha : VA X F0 H0 Ψ [e] fs) (hgl : Gl X "len" := by rfl) (he : starEach [e] X.env = (false, eval e X.env) :: starEach [] X.env := by rfl) : VE X F0 H0 Ψ (.Call (.Name "len" p) [e] [] pos) (eCall lenD fs) := v_lenL hm ha hgl he
end
end L3
set_option Elab.async false
set_option linter.all false
set_option maxRecDepth 100000
namespace L2
open PySem PySem.Spec PyProof.Rows
section
variable {X : Cx} {pins : List (Addr × Obj)} {σ : St} {H : Hp} {s : Shared} {h' : Heap}
end
section
variable {X : Cx}
end
end L2
namespace L3
open PySem L2
section
variable {X : Cx} {F0 H0 : Hp} {Ψ : Psi}
end
end L3
set_option Elab.async false
set_option linter.all false
set_option maxRecDepth 100000
namespace ST
open PySem PySem.SetTable
noncomputable def it (f : Nat → Nat) : Nat → Nat → Nat
  | 0, x => x
  | n + 1, x => it f n (f x)
noncomputable def adv (m : Nat) (p : Probe) : Probe :=
  if p.more > 0 then { p with j := p.j + 1, more := p.more - 1 } else
  { p with j := (leap m p.i p.perturb).1, more := runEnd m (leap m p.i p.perturb).1 - (leap m p.i p.perturb).1, i := (leap m p.i p.perturb).1, perturb := (leap m p.i p.perturb).2 }
noncomputable def st0 (m : Nat) (h : Int) : Probe := { j := bits h % (m + 1), more := runEnd m (bits h % (m + 1)) - bits h % (m + 1), i := bits h % (m + 1), perturb := bits h, dummy := none }
noncomputable def st (m : Nat) (h : Int) : Nat → Probe
  | 0 => st0 m h
  | n + 1 => adv m (st m h n)
noncomputable def pos (m : Nat) (h : Int) (n : Nat) : Nat := (st m h n).j
noncomputable def hd (m : Nat) (h : Int) : Nat → Nat × Nat
  | 0 => (bits h % (m + 1), bits h)
  | n + 1 => leap m (hd m h n).1 (hd m h n).2
noncomputable def head (m : Nat) (h : Int) (k : Nat) : Probe := { j := (hd m h k).1, more := runEnd m (hd m h k).1 - (hd m h k).1, i := (hd m h k).1, perturb := (hd m h k).2, dummy := none }
noncomputable abbrev El := Nat × (Int × Value)
section
variable {t : SetTable} {es : Array (Int × Value)} {L : List El}
noncomputable def cnt (j : Nat) : List Nat → Nat
  | [] => 0
  | x :: l => if x < j then cnt j l + 1 else 0
end
end ST
set_option Elab.async false
set_option linter.all false
set_option maxRecDepth 100000
namespace ST
open PySem PySem.SetTable
section
variable {t : SetTable} {es : Array (Int × Value)} {L : List El}
noncomputable def ins (L : List El) (e : El) : List El := L.take (cnt e.1 (L.map (·.1))) ++ e :: L.drop (cnt e.1 (L.map (·.1)))
end
end ST
set_option Elab.async false
set_option linter.all false
set_option maxRecDepth 100000
namespace ST
open PySem PySem.SetTable
section
variable {prog : Program} {w : World} {K : Type} [DecidableEq K] {knd : KeyKind prog w K} {A : Around} {E : Value → Shared → Prop} {s : Shared}
end
end ST
set_option Elab.async false
set_option linter.all false
set_option maxRecDepth 100000
namespace ST
open PySem PySem.SetTable
section
variable {prog : Program} {w : World} {K : Type} [DecidableEq K] {knd : KeyKind prog w K} {A : Around} {E : Value → Shared → Prop} {s : Shared}
end
end ST
set_option Elab.async false
set_option linter.all false
set_option maxRecDepth 100000
namespace ST
open PySem PySem.SetTable
noncomputable def dd {κ : Type} [DecidableEq κ] (l : List κ) : List κ := l.foldl (fun ds k => if k ∈ ds then ds else ds ++ [k]) []
section
variable {prog : Program} {w : World} {K : Type} [DecidableEq K] {knd : KeyKind prog w K} {A : Around} {R : Result → Shared → Prop} {E : Value → Shared → Prop} {s : Shared}
noncomputable def Keyed (knd : KeyKind prog w K) (h : Heap) (vs : List Value) (ks : List (List K)) : Prop := vs.length = ks.length ∧ ∀ (i : Nat) v, vs[i]? = some v → ∃ ad k, v = .ref ad ∧ ks[i]? = some k ∧ IsTupleKey knd h k ad
end
end ST
set_option Elab.async false
set_option linter.all false
set_option maxRecDepth 100000
namespace ST
open PySem PySem.SetTable
section
variable {prog : Program} {w : World} {K : Type} [DecidableEq K] {knd : KeyKind prog w K} {A : Around} {E : Value → Shared → Prop} {s : Shared}
end
end ST
set_option Elab.async false
set_option linter.all false
set_option maxRecDepth 100000
namespace L3
open PySem L2
section
variable {X : Cx}
variable {F0 H0 : Hp} {Ψ : Psi}
end
end L3
set_option Elab.async false
set_option linter.all false
set_option maxRecDepth 100000
namespace L2
open PySem PySem.Spec PyProof.Rows
section
variable {X : Cx} {a b c d : Expr} {ta tb tc td : TE} {pos : Pos}
end
end L2
namespace L3
open PySem L2
section
variable {X : Cx} {K : PySem.W.Frag} {F0 H0 F H F' H' : Hp} {Ψ : Psi} {σ : St} {ev : Ev}
end
end L3
set_option Elab.async false
set_option linter.all false
set_option maxRecDepth 100000
namespace L2
open PySem PySem.Spec PyProof.Rows
theorem turn_long {P : Program} {w : World} {K : PySem.W.Frag} {tg : Expr} (it : Addr) (lo : Int) : Turn P w K tg (Itr lo 0) [it] it (fun i h => ∃ x left step, IsLongIter h it x left step ∧ left ≤ 0) where
  mem := by simp
  obj := fun i h st b hb => by
    have e : b = it := by simpa using hb
    subst e
    obtain ⟨x, l, sp, st, _⟩ := st
    exact ⟨_, st, fun v z => by cases z⟩
  keep := fun i h h' st k => by
    obtain ⟨x, l, sp, st, hl⟩ := st
    exact ⟨x, l, sp, k it (by simp) _ st, hl⟩
  item := by
    intro X hP hw hK hc i pins s σ H E I hf st hg
    have : i < 0 := hg
    omega
  done := by
    intro X hP hw hK hc i pins s σ H E I hf st hg
    subst hP hw hK
    obtain ⟨x, l, sp, st, hl⟩ := st
    obtain ⟨f0, f1, f2, f3, f4, f5⟩ := hf it (by simp)
    exact wpAny_pyNext_long_end (I.ok.hd hc) st hl fun h' eb => ⟨rfl, I.turned (t' := s.toks) (fun b o hb e => eb b o hb e) f0 f1 f3 f4 f5⟩
  self := fun _ _ _ _ _ st h => by
    obtain ⟨x, l, sp, st, hl⟩ := st
    exact wpAny_pyIter_longiter st h
section
variable {X : Cx} {tg : Expr}
noncomputable def iRngN (ta : TA) : TI := fun σ H R => ta σ H fun vs H1 => ∃ j : Int, vs = [.int j] ∧ j < -(2 ^ 62) ∧ R (Itr 0 0) H1
theorem pi_rangeN {a : Expr} {ta : TA} {p pos : Pos} (hg : Gl X "range") (hm : X.mg "range" = none) (ha : PA X [a] ta) (hs : starEach [a] X.env = [(false, eval a X.env)] := by rfl) : PI X tg (.Call (.Name "range" p) [a] [] pos) (iRngN ta) := by
  intro pins s σ H R I h
  refine Call_ (ld_blt I hg hm boot_range (PyProof.Rows.callWith_type1 (thn (ha pos pins s σ H _ I h) fun us s1 ⟨vs, H1, I1, r1, q1⟩ => ?_) hs rfl))
  obtain ⟨j, e, hj, q⟩ := q1
  subst e
  cases r1 with
  | cons r rr =>
    cases rr
    obtain ⟨t, rfl⟩ := r
    refine call_range_1 ?_
    have sz : Builtin.Range.rangeSize 0 j 1 = 0 := by rw [rangeSize_one, if_neg (by omega)]
    cases hsm : Builtin.Range.small 0 j 1 with
    | true =>
      refine wpAny_pyIter_range (IsRange.new ..) hsm ?_
      have I2 := I1.kept (t' := s1.toks + 2) (h' := s1.heap.push { cls := .type "range", data := .fields #[.int 0 s1.toks, .int j t, .int 1 (s1.toks + 1)] }) fun b o e => Heap.get?_push_of_some _ e
      refine ⟨_, [_], _, _, H1, rfl, I2.kept (t' := s1.toks + 2) fun b o e => Heap.get?_push_of_some _ e, turn_range _ 0 0, ?_, fun b hb => ?_, q⟩
      · rw [sz]
        exact Heap.get?_push_size _ rfl
      · have e := List.mem_singleton.1 hb
        subst e
        exact I2.fpOk (Nat.le_refl _) (I2.hok.fresh (Nat.le_refl _))
    | false =>
      refine wpAny_pyIter_longrange (IsRange.new ..) hsm ?_
      have I2 := I1.kept (t' := s1.toks + 2) (h' := s1.heap.push { cls := .type "range", data := .fields #[.int 0 s1.toks, .int j t, .int 1 (s1.toks + 1)] }) fun b o e => Heap.get?_push_of_some _ e
      refine ⟨_, [_], _, _, H1, rfl, I2.kept (t' := s1.toks + 2) fun b o e => Heap.get?_push_of_some _ e, turn_long _ 0, ?_, fun b hb => ?_, q⟩
      · rw [sz]
        exact ⟨_, _, _, Heap.get?_push_size _ rfl, Int.le_refl _⟩
      · have e := List.mem_singleton.1 hb
        subst e
        exact I2.fpOk (Nat.le_refl _) (I2.hok.fresh (Nat.le_refl _))
theorem PI.or {g e : Expr} {t t' : TI} (h : PI X g e t) (h' : PI X g e t') : PI X g e (fun σ H R => t σ H R ∨ t' σ H R) := fun pins s σ H R I q => by
  rcases q with q | q
  · exact h pins s σ H R I q
  · exact h' pins s σ H R I q
end
end L2
namespace L3
open PySem L2
section
variable {X : Cx} {F0 H0 : Hp} {Ψ : Psi} {tg a : Expr} {fs : Ev → RA} {pos : Pos}
noncomputable def rngW : RA → RI
  | .ok [(_, .int j)] => if j < 2 ^ 62 then .ok (rangeD 0 j.toNat) else .no
  | .ex C => .ex C
  | _ => .no
noncomputable def iRngW (f : Ev → RA) (ev : Ev) : RI := rngW (f ev)
theorem vi_rngW {p : Pos} (hm : X.mg "range" = none) (ha : VA X F0 H0 Ψ [a] fs) (hg : Gl X "range" := by rfl) (hs : starEach [a] X.env = [(false, eval a X.env)] := by rfl) : VI X F0 H0 Ψ tg (.Call (.Name "range" p) [a] [] pos) (iRngW fs) :=
  ((pi_range1 hg hm ha hs).or (pi_rangeN hg hm ha hs)).mono fun σ H R h => by
    obtain ⟨F, ev, fi, m⟩ := h
    unfold iRngW at m
    cases h1 : fs ev with
    | no => rw [h1] at m; exact m.elim
    | ex C => rw [h1] at m; exact .inl ⟨F, ev, fi, by rw [h1]; exact m⟩
    | ok l =>
      rw [h1] at m
      unfold rngW at m
      split at m
      · rename_i ds hm'
        split at hm'
        · rename_i k j he
          cases he
          split at hm'
          · rename_i hb
            cases hm'
            by_cases hlow : -(2 ^ 62) ≤ j
            · left
              refine iRng1_of ⟨F, ev, fi, ?_⟩
              dsimp only
              rw [h1]
              simp only [rng1R, if_pos (show -(2 ^ 62) ≤ j ∧ j < 2 ^ 62 from ⟨hlow, hb⟩)]
              exact m
            · right
              refine ⟨F, ev, fi, ?_⟩
              rw [h1]
              intro F1 vs H1 s va
              obtain ⟨v, r, rfl, _, hv, hr⟩ := va
              obtain rfl : r = [] := hr
              refine ⟨j, by rw [hv.rd.int], by omega, ?_⟩
              have : j.toNat = 0 := by omega
              rw [this] at m
              exact m F1 H1 _ s yields_range
          · cases hm'
        · cases hm'
        · cases hm'
      · rename_i C hm'
        split at hm' <;> first | (split at hm' <;> cases hm') | cases hm'
        rename_i he; cases he
      · exact m.elim
end
end L3
namespace L3
open PySem L2
end L3
set_option Elab.async false
set_option linter.all false
set_option maxRecDepth 100000
namespace L3
open PySem L2
section
variable {X : Cx} {K : PySem.W.Frag} {F0 H0 : Hp} {Ψ : Psi} {σ : St} {H : Hp}
variable {a b c : Expr} {f1 f2 f3 : Ev → R} {apos cpos : Pos}
end
end L3
set_option Elab.async false
set_option linter.all false
set_option maxRecDepth 100000
namespace L3
open PySem L2
section
variable {X : Cx} {K : PySem.W.Frag} {F0 H0 : Hp} {Ψ : Psi} {σ : St} {H : Hp}
variable {c : Expr} {f : Ev → R} {g : Ev → Fl} {body : List Stmt} {x y : Str} {p1 p2 pi pos : Pos}
end
end L3
set_option Elab.async false
set_option linter.all false
set_option maxRecDepth 100000
namespace TSrt
open PySem PySem.W PyProof.Rows
section
variable {M : Model} {A : Around} {E : Value → Shared → Prop} {σ : Type}
end
section
variable {M : Model} {A : Around} {E : Value → Shared → Prop}
end
end TSrt
set_option Elab.async false
set_option linter.all false
set_option maxRecDepth 100000
namespace TSrt
open PySem PySem.W PyProof.Rows
section
variable {M : Model} {A : Around} {E : Value → Shared → Prop} {σ : Type}
end
noncomputable def ats (xs : Array Keyed) (i : Nat) : Keyed := (xs[i]?).getD (.none, .none)
noncomputable def Loc (ix : Keyed → Nat) (xs : Array Keyed) (p q : Nat) : Prop := ∀ j, p ≤ j → j < q → p ≤ ix (ats xs j) ∧ ix (ats xs j) < q
section
variable {M : Model} {A : Around} {E : Value → Shared → Prop} {κ : SortKind} {a0 : Array Keyed} {c0 c : Keyed → Keyed → Bool} {ix : Keyed → Nat} {G : Shared → Prop}
end
end TSrt
set_option Elab.async false
set_option linter.all false
set_option maxRecDepth 100000
namespace TSrt
open PySem PySem.W PyProof.Rows
section pure
variable {c : Keyed → Keyed → Bool}
end pure
end TSrt
set_option Elab.async false
set_option linter.all false
set_option maxRecDepth 100000
namespace TSrt
open PySem PySem.W PyProof.Rows
section
variable {M : Model} {A : Around} {E : Value → Shared → Prop} {κ : SortKind} {a0 : Array Keyed} {c0 c : Keyed → Keyed → Bool} {ix : Keyed → Nat} {G : Shared → Prop}
end
end TSrt
set_option Elab.async false
set_option linter.all false
set_option maxRecDepth 100000
namespace TSrt
open PySem PySem.W PyProof.Rows
section pure
variable {c : Keyed → Keyed → Bool}
end pure
section
variable {M : Model} {A : Around} {E : Value → Shared → Prop} {κ : SortKind} {a0 : Array Keyed} {c0 c : Keyed → Keyed → Bool} {ix : Keyed → Nat} {G : Shared → Prop}
end
end TSrt
set_option Elab.async false
set_option linter.all false
set_option maxRecDepth 100000
namespace TSrt
open PySem PySem.W PyProof.Rows
section
variable {M : Model} {A : Around} {E : Value → Shared → Prop} {κ : SortKind} {a0 : Array Keyed} {c0 c : Keyed → Keyed → Bool} {ix : Keyed → Nat} {G : Shared → Prop}
end
end TSrt
set_option Elab.async false
set_option linter.all false
set_option maxRecDepth 100000
namespace TSrt
open PySem PySem.W PyProof.Rows
section
variable {M : Model} {A : Around} {E : Value → Shared → Prop} {κ : SortKind} {a0 : Array Keyed} {c0 c : Keyed → Keyed → Bool} {ix : Keyed → Nat} {G : Shared → Prop}
end
end TSrt
set_option Elab.async false
set_option linter.all false
set_option maxRecDepth 100000
namespace TSrt
open PySem PySem.W PyProof.Rows
section
variable {M : Model} {A : Around} {E : Value → Shared → Prop} {κ : SortKind} {G : Shared → Prop} {κt : Type} {lt : κt → κt → Bool} {ks : Nat → κt} {kvs vs : List Value}
end
end TSrt
set_option Elab.async false
set_option linter.all false
set_option maxRecDepth 100000
namespace TSrt
open PySem PySem.W PyProof.Rows PySem.Calls
section
variable {prog : Program} {w : World} {A : Around} {E : Value → Shared → Prop} {s : Shared} {l q : Addr} {its : List Value} {b : Bool} {ks : Nat → Int}
end
end TSrt
set_option Elab.async false
set_option linter.all false
set_option maxRecDepth 100000
namespace L2
open PySem PySem.Spec PyProof.Rows
section
variable {X : Cx} {pins : List (Addr × Obj)} {σ : St} {H : Hp} {s : Shared} {h' : Heap}
end
end L2
namespace L3
open PySem L2 TSrt
open PyProof.Rows (boot_sorted callWith_kw kws_cons kws_nil Constant_bool)
section
variable {X : Cx} {K : PySem.W.Frag} {F0 H0 : Hp} {Ψ : Psi}
end
end L3
set_option Elab.async false
set_option linter.all false
set_option maxRecDepth 100000
namespace TSrt
open PySem PySem.W PyProof.Rows PySem.Calls
noncomputable def kin : L2.Key → Bool
  | .inl _ => true
  | .inr _ => false
section
variable {prog : Program} {w : World} {A : Around} {s : Shared}
end
end TSrt
set_option Elab.async false
set_option linter.all false
set_option maxRecDepth 100000
namespace L3
open PySem L2 TSrt
section
variable {X : Cx}
variable {F0 H0 : Hp} {Ψ : Psi}
end
end L3
set_option Elab.async false
set_option linter.all false
set_option maxRecDepth 100000
namespace L3
open PySem L2 TSrt
section
variable {X : Cx} {K : PySem.W.Frag} {F0 H0 : Hp} {Ψ : Psi} {σ : St} {H : Hp}
variable {e : Expr} {f : Ev → R} {x : Str} {p apos cpos pos : Pos}
theorem op_isB : OpR X (compareOp .Is) (fun x y H Q => ∃ a b, x = .bl a ∧ y = .bl b ∧ Q (.bl (a == b)) H) := by
  intro pins s σ H x y v u Q I rx ry h
  obtain ⟨a, b, rfl, rfl, q⟩ := h
  cases rx; cases ry
  refine wpAny_is_plain rfl (fin_bl I q ?_)
  cases a <;> cases b <;> rfl
noncomputable def isBD : G2
  | .bl a, .bl b => some (.fz, .bl (a == b))
  | _, _ => none
noncomputable def notBD : G2
  | .bl a, .bl b => some (.fz, .bl (!(a == b)))
  | _, _ => none
theorem ok_isB : OkOp K (fun x y H Q => ∃ a b, x = .bl a ∧ y = .bl b ∧ Q (.bl (a == b)) H) isBD := by
  intro F H dx dy x y k d Q s rx ry e q
  first | unfold isBD at e | unfold notBD at e
  split at e <;> first | (cases e; done) | skip
  cases e
  exact ⟨_, _, rx.bl, ry.bl, q F _ H ⟨.refl s, by rw [Val, Rep]⟩⟩
theorem c_isB : CmpOk X .Is isBD := ⟨_, op_isB, ok_isB⟩
end
end L3
set_option Elab.async false
set_option linter.all false
set_option maxRecDepth 100000
namespace L3
open PySem L2 TSrt
section
variable {X : Cx} {K : PySem.W.Frag} {F0 H0 : Hp} {Ψ : Psi} {σ : St} {H : Hp}
end
section
variable {X : Cx} {F0 H0 : Hp} {Ψ : Psi} {osc scope : Scope} {N : List Str} {target iter elt : Expr} {ifs : List Expr} {pos : Pos} {fi : Ev → RI} {b : B1} {f e : Ev → R}
end
end L3
set_option Elab.async false
set_option linter.all false
set_option maxRecDepth 100000
namespace L3
open PySem L2
section
variable {X : Cx} {F0 H0 : Hp} {g h : Ev → Fl} {st : Stmt} {sts rest : List Stmt} {pos : Pos}
variable {e0 e1 e2 : Expr} {f0 f1 f2 : Ev → R} {x1 : ExprCtx}
end
section
variable {P : Program} {w : World} {K : PySem.W.Frag} {mg : Str → Option Value} {base : Heap}
end
section
variable {X : Cx} {K : PySem.W.Frag} {F0 H0 Fb Hb F H F' H' : Hp} {Ψ : Psi} {i : Nat} {l : List D} {ev : Ev} {σ : St}
variable {k n : Nat} {x y : Str} {φ : List D → R} {p p' pos pos' : Pos} {e : Expr} {es : List Expr} {fs : Ev → RA} {sts body : List Stmt} {h g : Ev → Fl}
variable {ji : Int} {kk : Nat} {q1 q2 q3 q4 q5 apos cpos : Pos}
end
end L3
set_option Elab.async false
set_option linter.all false
set_option maxRecDepth 100000
namespace L3
open PySem L2 PySem.SeqAt
section
variable {X : Cx} {F0 H0 : Hp} {Ψ : Psi} {a b : Expr} {f1 f2 : Ev → R} {apos cpos : Pos}
end
end L3
set_option Elab.async false
set_option linter.all false
set_option maxRecDepth 100000
namespace L3
open PySem L2
noncomputable def pickS (x : Str) (i : Int) : List Nat := Builtin.Str.strSliceIndices (some i) none 1 x.length
noncomputable def cutS (x : Str) (i : Int) : Str := if ((pickS x i).length == x.length) = true then x else ⟨((pickS x i).filterMap (x.cps[·]?)).toArray⟩
noncomputable def slSR : R → R → R
  | .ok _ (.str x), r => (match r with
    | .ok _ (.int i) => if (cutS x i).length ≤ LIM then .ok .fz (.str (cutS x i)) else .no
    | .ex C => .ex C
    | _ => .no)
  | .ex C, _ => .ex C
  | _, _ => .no
noncomputable def eSlS (f1 f2 : Ev → R) (ev : Ev) : R := slSR (f1 ev) (f2 ev)
section
variable {X : Cx} {F0 H0 : Hp} {Ψ : Psi} {a b : Expr} {f1 f2 : Ev → R} {p2 pos : Pos}
noncomputable def rSlS : V → Option Int → Option Int → Hp → VK → Prop := fun x lo hi H Q => ∃ z i, x = .str z ∧ lo = some i ∧ hi = none ∧ (cutS z i).length ≤ sizeLine ∧ Q (.str (cutS z i)) H
theorem sl_str : SlR X rSlS := by
  intro pins s σ H x v vl vu lo hi sl Q I rx hs pl pu h
  obtain ⟨z, i, rfl, rfl, rfl, hz, q⟩ := h
  obtain ⟨t, rfl⟩ := rx
  refine ⟨"str", _, PySem.F.slot_str_getitem.lookup, typeIs_str s z t, ?_⟩
  cases pl
  cases pu
  rename_i ti
  refine wpAny_getItem_str_slice (l := some (i, ti)) (u := none) (st := none) hs rfl ?_
  have : sliceMade z t (some (i, ti)) none none = if ((pickS z i).length == z.length) = true then .val (.str z t) else .str ⟨((pickS z i).filterMap (z.cps[·]?)).toArray⟩ := rfl
  rw [this]
  unfold cutS at q hz
  by_cases e : ((pickS z i).length == z.length) = true
  · rw [if_pos e]; rw [if_pos e] at q
    exact ⟨.str z, H, I, ⟨t, rfl⟩, q⟩
  · rw [if_neg e]; rw [if_neg e] at q hz
    exact ⟨hz, .str _, H, I.tok _, ⟨_, rfl⟩, q⟩
theorem v_slS (ha : VE X F0 H0 Ψ a f1) (hb : VE X F0 H0 Ψ b f2) : VE X F0 H0 Ψ (.Subscript a (.Slice (some b) none none p2) pos) (eSlS f1 f2) :=
  (pe_slice sl_str ha (po_some hb) po_none).mono fun σ H Q h => by
    obtain ⟨F, ev, fi, m⟩ := h
    refine ⟨F, ev, fi, ?_⟩
    unfold eSlS at m
    cases h1 : f1 ev with
    | no => rw [h1] at m; exact m
    | ex C => rw [h1] at m; exact m
    | ok k d =>
      rw [h1] at m
      intro F1 x H1 p1
      cases d with
      | str z =>
        refine ⟨F1, ev, fi.later p1.st, ?_⟩
        cases h2 : f2 ev with
        | no => rw [h2] at m; exact m
        | ex C => rw [h2] at m; exact m
        | ok k2 d2 =>
          rw [h2] at m
          intro F2 y H2 p3
          cases d2 with
          | int i =>
            have m : match (if (cutS z i).length ≤ LIM then R.ok .fz (.str (cutS z i)) else .no) with
              | .ok k d => ∀ F' v H', Post X.K F H k d F' v H' → Q v H'
              | .ex C => ∀ F' H', Step F0 H0 F' H' → Ψ C H'
              | .no => False := m
            by_cases hl : (cutS z i).length ≤ LIM
            · rw [if_pos hl] at m
              refine ⟨i, p3.val.rd.int, z, i, p1.val.rd.str, rfl, rfl, lim_le hl, ?_⟩
              exact m F2 _ H2 ⟨p1.st.trans p3.st, by rw [Val, Rep]⟩
            · rw [if_neg hl] at m; exact m.elim
          | _ => exact m.elim
      | _ => exact m.elim
end
end L3
set_option Elab.async false
set_option linter.all false
set_option maxRecDepth 100000
namespace L3
open PySem L2
theorem RdV.obj {K : PySem.W.Frag} {F H : Hp} {c : Str} {ns : List Str} {xs : List D} {v : V} (s : Same F H) (h : RdV K F H (.obj c ns xs) v) :
    ∃ a C dx vs, v = .ref a ∧ PySem.W.nsIn K mainGlobals c = some (some (.ref C)) ∧ H a = some (.ins C dx (ns.zip vs)) ∧ ns.length = vs.length ∧ Reps K F xs vs := by
  rcases h with h | ⟨a, h1, h⟩
  · rw [Rep] at h
    obtain ⟨a, C, dx, vs, h1, hc, h2, h3, h4⟩ := h
    exact ⟨a, C, dx, vs, h1, hc, s _ _ h2, h3, h4⟩
  · obtain ⟨C, dx, vs, hc, h2, h3, h4⟩ := h
    exact ⟨a, C, dx, vs, h1, hc, h2, h3, h4⟩
theorem zip_lookup {K : PySem.W.Frag} {F : Hp} {f : Str} {d : D} : ∀ {ns : List Str} {xs : List D} {vs : List V}, Reps K F xs vs → (ns.zip xs).lookup f = some d → ∃ v, (ns.zip vs).lookup f = some v ∧ Rep K F d v
  | [], _, _, _, e => by simp at e
  | _ :: _, [], _, _, e => by simp at e
  | n :: ns, x :: xs, _, h, e => by
    obtain ⟨v, r, rfl, h1, h2⟩ := h.uncons
    simp only [List.zip_cons_cons, List.lookup_cons] at e ⊢
    by_cases q : f == n
    · simp only [q] at e ⊢
      cases e; exact ⟨v, rfl, h1⟩
    · simp only [q] at e ⊢
      exact zip_lookup h2 e
theorem zip_lookup_none {f : Str} : ∀ {ns : List Str} {vs : List V}, f ∉ ns → (ns.zip vs).lookup f = none
  | [], _, _ => by simp
  | _ :: _, [], _ => by simp
  | n :: ns, v :: vs, h => by
    simp only [List.zip_cons_cons, List.lookup_cons]
    have q : (f == n) = false := by
      rw [beq_eq_false_iff_ne]
      rintro rfl; exact h List.mem_cons_self
    simp only [q]
    exact zip_lookup_none fun m => h (List.mem_cons_of_mem _ m)

noncomputable def fldR (cs : List Str) (f : Str) : R → R
  | .ok _ (.obj c ns xs) => if c ∈ cs then (match (ns.zip xs).lookup f with
    | some d => .ok .fz d
    | none => .no) else .no
  | .ok _ _ => .no
  | .ex C => .ex C
  | .no => .no
noncomputable def eFld (cs : List Str) (f : Str) (g : Ev → R) (ev : Ev) : R := fldR cs f (g ev)
noncomputable def FldOk (K : PySem.W.Frag) (cs : List Str) (f : Str) : Prop := ∀ c ∈ cs, ∃ C, PySem.W.nsIn K mainGlobals c = some (some (.ref C)) ∧ Cls K C ∧ NoAttr K C f
theorem fld_nil {K : PySem.W.Frag} {f : Str} : FldOk K [] f := fun _ h => by simp at h
theorem fld_cons {K : PySem.W.Frag} {cs : List Str} {c f : Str} {C : Addr} (h : PySem.W.nsIn K mainGlobals c = some (some (.ref C))) (k : Cls K C) (n : NoAttr K C f) (r : FldOk K cs f) : FldOk K (c :: cs) f := fun c' m => by
  rcases List.mem_cons.mp m with rfl | m
  · exact ⟨C, h, k, n⟩
  · exact r c' m
section
variable {X : Cx} {F0 H0 : Hp} {Ψ : Psi} {e o : Expr} {es : List Expr} {f : Str} {cs : List Str} {g : Ev → R} {fs : Ev → RA} {pos p apos : Pos}
theorem v_fld (h : FldOk X.K cs f) (he : VE X F0 H0 Ψ e g) (hb : attributeBase e f X.env (eval e X.env) = eval e X.env := by rfl) : VE X F0 H0 Ψ (.Attribute e f pos) (eFld cs f g) := by
  refine (pe_fld he hb).mono fun σ H Q q => ?_
  obtain ⟨F, ev, fi, m⟩ := q
  refine ⟨F, ev, fi, ?_⟩
  unfold eFld at m
  cases h1 : g ev with
  | no => rw [h1] at m; exact m
  | ex C => rw [h1] at m; exact m
  | ok k d =>
    rw [h1] at m
    intro F1 x H1 p1
    cases d with
    | obj c ns xs =>
      simp only [fldR] at m
      by_cases hc : c ∈ cs
      · rw [if_pos hc] at m
        obtain ⟨a, C, dx, vs, rfl, hC, ha, hl, rs⟩ := p1.val.rd.obj p1.st.sub
        obtain ⟨C', hC', cl, na⟩ := h c hc
        rw [hC] at hC'; cases hC'
        cases q : (ns.zip xs).lookup f with
        | none => rw [q] at m; exact m.elim
        | some d =>
          rw [q] at m
          obtain ⟨v, e1, rv⟩ := zip_lookup rs q
          exact ⟨a, C, dx, _, v, rfl, ha, cl, na, e1, m F1 v H1 ⟨p1.st, rv⟩⟩
      · rw [if_neg hc] at m; exact m.elim
    | _ => exact m.elim

theorem spV_of {K : PySem.W.Frag} {n : Nat} {φ : List D → R} {F H F1 H1 : Hp} {l : List (Kd × D)} {vs : List V} {Q : VK} {E : XK} (s : Step F H F1 H1) (va : ValA K F1 H H1 l vs) (m : match fnR n φ (.ok l) with
      | .ok k d => ∀ F' v H', Post K F H k d F' v H' → Q v H'
      | .ex C => ∀ F' H', Step F0 H0 F' H' → Ψ C H'
      | .no => False) : spV0 K φ n vs H1 Q E := by
  simp only [fnR] at m
  by_cases hn : l.length = n
  · rw [if_pos hn] at m
    cases h2 : allFz l with
    | some ds =>
      rw [h2] at m
      dsimp only at m
      have rs := va.fz h2
      refine ⟨F1, ds, s.sub, rs, by rw [rs.length, ← va.length]; exact hn, ?_⟩
      cases h3 : φ ds with
      | no => rw [h3] at m; exact m
      | ex C => rw [h3] at m; exact m.elim
      | ok k' d =>
        rw [h3] at m
        cases k' with
        | bo => exact m.elim
        | fz => exact ⟨by simp, fun F' v H' p => m F' v H' ⟨s.trans p.st, p.val.early s.keep⟩⟩
        | ow => exact ⟨by simp, fun F' v H' p => m F' v H' ⟨s.trans p.st, p.val.early s.keep⟩⟩
    | none =>
      rw [h2] at m
      dsimp only at m
      have rs := va.rds s.sub
      refine ⟨H1, l.map (·.2), .refl _, rs, by simpa using hn, ?_⟩
      cases h3 : φ (l.map (·.2)) with
      | no => rw [h3] at m; exact m
      | ex C => rw [h3] at m; exact m.elim
      | ok k' d =>
        rw [h3] at m
        have go : k' ≠ .bo → (match (if scalD d = true then R.ok .fz d else .no) with
          | .ok k d => ∀ F' v H', Post K F H k d F' v H' → Q v H'
          | .ex C => ∀ F' H', Step F0 H0 F' H' → Ψ C H'
          | .no => False) → k' ≠ .bo ∧ ∀ F' v H', Post K H1 H1 k' d F' v H' → Q v H' := fun nb m => by
          by_cases hs : scalD d = true
          · rw [if_pos hs] at m
            exact ⟨nb, fun F' v H' p => m F1 v H' ⟨s.trans ⟨.refl _, s.sub.trans p.st.keep, p.st.keep, fun a o e => .inl e⟩, scal_rep hs p.val.rd⟩⟩
          · rw [if_neg hs] at m; exact m.elim
        cases k' with
        | bo => exact m.elim
        | fz => exact go (by simp) m
        | ow => exact go (by simp) m
  · rw [if_neg hn] at m; exact m.elim
noncomputable abbrev MTab := List (Str × (List D → R))
noncomputable def methR (m : Str) (n : Nat) (tab : MTab) (r : R) (ra : RA) : R := match r with
  | .ok .fz (.obj c ns xs) => if m ∈ ns then .no else match tab.lookup c with
    | some φ => fnR n φ (consA (.ok .fz (.obj c ns xs)) ra)
    | none => .no
  | .ex C => .ex C
  | _ => .no
noncomputable def eMeth (m : Str) (n : Nat) (tab : MTab) (g : Ev → R) (fs : Ev → RA) (ev : Ev) : R := methR m n tab (g ev) (fs ev)
noncomputable def DispOk (P : Program) (w : World) (K : PySem.W.Frag) (mg : Str → Option Value) (base : Heap) (k : Nat) (m : Str) (n : Nat) (tab : MTab) : Prop :=
  ∀ c φ, (c, φ) ∈ tab → ∃ C f fd ps, PySem.W.nsIn K mainGlobals c = some (some (.ref C)) ∧ Cls K C ∧ Meth K C m f ∧ FnOk P w K mg base CX0 k f fd ps (spV0 K φ n) ∧ Binds K fd ps []
section
variable {P : Program} {w : World} {K : PySem.W.Frag} {mg : Str → Option Value} {base : Heap}
theorem disp_nil {k n : Nat} {m : Str} : DispOk P w K mg base k m n [] := fun _ _ h => by simp at h
theorem disp_cons {k j n : Nat} {m c : Str} {φ : List D → R} {tab : MTab} {C f : Addr} {fd : FuncData} {ps : List Str} (h : PySem.W.nsIn K mainGlobals c = some (some (.ref C))) (cl : Cls K C) (me : Meth K C m f) (F : FnOk P w K mg base CX0 j f fd ps (spV0 K φ n)) (hj : j ≤ k) (hb : Binds K fd ps [])
    (r : DispOk P w K mg base k m n tab) : DispOk P w K mg base k m n ((c, φ) :: tab) := fun c' φ' q => by
  rcases List.mem_cons.mp q with q | q
  · cases q; exact ⟨C, f, fd, ps, h, cl, me, F.mono hj, hb⟩
  · exact r c' φ' q
end
theorem lookup_mem {α : Type} {c : Str} {φ : α} : ∀ {tab : List (Str × α)}, tab.lookup c = some φ → (c, φ) ∈ tab
  | [], h => by simp at h
  | (d, ψ) :: tab, h => by
    simp only [List.lookup_cons] at h
    by_cases q : c == d
    · simp only [q] at h
      cases h
      rw [beq_iff_eq.mp q]; exact List.mem_cons_self
    · simp only [q] at h
      exact List.mem_cons_of_mem _ (lookup_mem h)
noncomputable def tMethD (G : Addr → Sp → Prop) (m : Str) (ta : TE) (t : TA) : TE := fun σ H Q => ta σ H fun x H1 => ∃ a C dx fs sp, x = .ref a ∧ H1 a = some (.ins C dx fs) ∧ fs.lookup m = none ∧ G C sp ∧ t σ H1 fun vs H2 => sp (x :: vs) H2 Q E0
theorem pe_methD {G : Addr → Sp → Prop} {k : Nat} {m : Str} {ta : TE} {t : TA} {pl : Sem Bool} (he : PE X o ta) (hr : Room k X.A) (hG : ∀ C sp, G C sp → Cls X.K C ∧ ∃ f fd ps, Meth X.K C m f ∧ FnOk X.prog X.w X.K X.mg X.base CX0 k f fd ps sp ∧ Binds X.K fd ps []) (ha : PA X (e :: es) t)
    (hst : starEach (e :: es) X.env = (false, eval e X.env) :: starEach es X.env := by rfl) (hpl : (backTo pos (starEach es X.env)).any (·.1) = false := by rfl)
    (ht : eval (.Call (.Attribute o m apos) (e :: es) [] pos) X.env = (do
      let ov ← eval o X.env
      standAt apos.atName
      let (f, first) ← holding [ov] (getMethod ov m pl)
      callWith pos f first (backTo pos (starEach (e :: es) X.env)) (backToKw pos (keywordEach [] X.env))) := by rfl) :
    PE X (.Call (.Attribute o m apos) (e :: es) [] pos) (tMethD G m ta t) := by
  intro pins s σ H Q I h
  refine PySem.W.methodCall_KW (pl := pl) (thn (he pins s σ H _ I h) fun u s1 ⟨x, H1, I1, rx, a, C, dx, fs, sp, ex, ea, l, gq, q⟩ => ?_) ht
  subst ex
  obtain rfl : u = Value.ref a := rx
  obtain ⟨c, f, fd, ps, hm, F, hb⟩ := hG C sp gq
  refine getmeth_ok I1 ea c hm l ?_
  refine PySem.W.callWith_K (first := [.ref a]) (h₀ := X.base) I.ok.mod.kin hm.kp (thn (ha pos pins s1 σ H1 _ I1 q) fun us s2 ⟨vs, H2, I2, r, q2⟩ => ⟨I2.kIn, ?_⟩) hst hpl
  exact run_fn (us := .ref a :: us) (vs := .ref a :: vs) (dvs := []) (ds := []) F hr hb .nil pass0 I2 (.cons rfl r) (by rw [List.append_nil]; exact q2)
theorem v_meth {k n : Nat} {m : Str} {tab : MTab} {pl : Sem Bool} (D0 : DispOk X.prog X.w X.K X.mg X.base k m n tab) (hr : Room k X.A) (he : VE X F0 H0 Ψ o g) (ha : VA X F0 H0 Ψ (e :: es) fs)
    (hst : starEach (e :: es) X.env = (false, eval e X.env) :: starEach es X.env := by rfl) (hpl : (backTo pos (starEach es X.env)).any (·.1) = false := by rfl)
    (ht : eval (.Call (.Attribute o m apos) (e :: es) [] pos) X.env = (do
      let ov ← eval o X.env
      standAt apos.atName
      let (f, first) ← holding [ov] (getMethod ov m pl)
      callWith pos f first (backTo pos (starEach (e :: es) X.env)) (backToKw pos (keywordEach [] X.env))) := by rfl) :
    VE X F0 H0 Ψ (.Call (.Attribute o m apos) (e :: es) [] pos) (eMeth m n tab g fs) := by
  refine (pe_methD (G := fun C sp => ∃ c φ, (c, φ) ∈ tab ∧ PySem.W.nsIn X.K mainGlobals c = some (some (.ref C)) ∧ sp = spV0 X.K φ n) he hr (fun C sp ⟨c, φ, q, hC, hs⟩ => ?_) ha hst hpl ht).mono fun σ H Q q => ?_
  · obtain ⟨C', f, fd, ps, h1, h2, h3, h4, h5⟩ := D0 c φ q
    rw [hC] at h1; cases h1
    subst hs
    exact ⟨h2, f, fd, ps, h3, h4, h5⟩
  · obtain ⟨F, ev, fi, mm⟩ := q
    refine ⟨F, ev, fi, ?_⟩
    unfold eMeth methR at mm
    cases h1 : g ev with
    | no => rw [h1] at mm; exact mm
    | ex C => rw [h1] at mm; exact mm
    | ok k' d =>
      rw [h1] at mm
      intro F1 x H1 p1
      cases k' with
      | ow => exact mm.elim
      | bo => exact mm.elim
      | fz =>
        cases d with
        | obj c ns xs =>
          dsimp only at mm
          by_cases hm : m ∈ ns
          · rw [if_pos hm] at mm; exact mm.elim
          · rw [if_neg hm] at mm
            cases q : tab.lookup c with
            | none => rw [q] at mm; exact mm.elim
            | some φ =>
              rw [q] at mm
              have mm : match fnR n φ (consA (.ok .fz (.obj c ns xs)) (fs ev)) with
                | .ok k d => ∀ F' v H', Post X.K F H k d F' v H' → Q v H'
                | .ex C => ∀ F' H', Step F0 H0 F' H' → Ψ C H'
                | .no => False := mm
              obtain ⟨a, C, dx, vs, rfl, hC, ha', hl, rs⟩ := p1.val.rd.obj p1.st.sub
              refine ⟨a, C, dx, _, spV0 X.K φ n, rfl, ha', zip_lookup_none hm, ⟨c, φ, lookup_mem q, hC, rfl⟩, F1, ev, fi.later p1.st, ?_⟩
              cases h2 : fs ev with
              | no => rw [h2] at mm; exact mm
              | ex C => rw [h2] at mm; exact mm
              | ok l =>
                rw [h2] at mm
                intro F2 us H2 s2 va
                exact spV_of (F0 := F0) (H0 := H0) (Ψ := Ψ) (l := (frzK .fz, .obj c ns xs) :: l) (p1.st.trans s2) ⟨_, us, rfl, by simp [frzK], p1.val.later s2, va.early p1.st.keep⟩ mm
        | _ => exact mm.elim
end
theorem fn_no {P : Program} {w : World} {K : PySem.W.Frag} {mg : Str → Option Value} {base : Heap} {k n : Nat} {f : Addr} {fd : FuncData} {ps : List Str} {φ : List D → R} (h : ∀ ds, φ ds = .no) : FnOk P w K mg base CX0 k f fd ps (spV0 K φ n) := by
  refine ⟨fun vs H Q E q => ?_, fun A outer s H args us vs Q E _ _ _ _ q => ?_⟩ <;>
  · obtain ⟨F, ds, _, _, _, m⟩ := q
    rw [h ds] at m
    exact m.elim

noncomputable def fieldsR (ev : Ev) : List (Ev → R) → Option (List D)
  | [] => some []
  | f :: fs => match f ev with
    | .ok .bo _ => none
    | .ok _ d => (fieldsR ev fs).map (d :: ·)
    | _ => none
noncomputable def initR (fs : List (Ev → R)) (ds : List D) : Option (List D) := fieldsR (none :: ds.map fun d => some (.fz, d)) fs
noncomputable def spI (K : PySem.W.Frag) (ns : List Str) (fs : List (Ev → R)) (n : Nat) : Sp := fun vs H Q _ => ∃ F0 H0 x C dx ds rest ds', vs = .ref x :: rest ∧ H = upd (upd H0 dx (.own x)) x (.ins C dx []) ∧ H0 x = none ∧ H0 dx = none ∧ dx ≠ x ∧ Same F0 H0 ∧ Reps K F0 ds rest ∧ ds.length + 1 = n ∧
  Cls K C ∧ (∀ f ∈ ns, NoAttr K C f) ∧ initR fs ds = some ds' ∧ ∀ F' H' vs', Step F0 H0 F' H' → F' x = none → H' x = some (.ins C dx (ns.zip vs')) → Reps K F' ds' vs' → Q .non H'
noncomputable def tI (K : PySem.W.Frag) (F0 H0 : Hp) (x C dx : Addr) (ns : List Str) (fs : List (Ev → R)) : TS := fun D σ H => ∃ F ev ns0 vs0 ds', FI K F0 H0 F H ev σ ∧ (∀ (i : Nat) k d, ev[i]? = some (some (k, d)) → k = .fz) ∧ σ[0]? = some (some (.ref x)) ∧ F x = none ∧ H0 x = none ∧
  H x = some (.ins C dx (ns0.zip vs0)) ∧ ns0.length = vs0.length ∧ Cls K C ∧ (∀ f ∈ ns, NoAttr K C f) ∧ (ns0 ++ ns).Nodup ∧ (ns0 ++ ns).length < 1000 ∧ fieldsR ev fs = some ds' ∧
  ∀ F' H' σ' vs', Step F0 H0 F' H' → F' x = none → Same F F' → H' x = some (.ins C dx ((ns0 ++ ns).zip (vs0 ++ vs'))) → Reps K F' ds' vs' → D.nx σ' H'
section
variable {X : Cx} {F0 H0 : Hp} {x C dx : Addr} {ns : List Str} {fs : List (Ev → R)} {f : Ev → R} {fld sl : Str} {e : Expr} {rest : List Stmt} {p apos pos : Pos}
theorem vi_nil : PSs X [] (tI X.K F0 H0 x C dx [] []) := pss_nil.mono fun D σ H q => by
  obtain ⟨F, ev, ns0, vs0, ds', fi, hf, h0, hF, hH, hx, hl, cl, na, nd, hlen, e, m⟩ := q
  cases e
  exact m F H σ [] fi.st hF (.refl _) (by rw [List.append_nil, List.append_nil]; exact hx) .nil
theorem putF_new {f : Str} {y : V} : ∀ {ns : List Str} {vs : List V}, f ∉ ns → ns.length = vs.length → putF f y (ns.zip vs) = (ns ++ [f]).zip (vs ++ [y])
  | [], [], _, _ => rfl
  | [], _ :: _, _, h => by simp at h
  | _ :: _, [], _, h => by simp at h
  | n :: ns, v :: vs, h, hl => by
    have q : ¬ n = f := by rintro rfl; exact h List.mem_cons_self
    have i := putF_new (f := f) (y := y) (ns := ns) (vs := vs) (fun m => h (List.mem_cons_of_mem _ m)) (by simpa using hl)
    simp only [List.zip_cons_cons, List.cons_append, putF, q, if_false, i]
theorem vi_cons (he : VE X F0 H0 Psi0 e f) (hr : PSs X rest (tI X.K F0 H0 x C dx ns fs)) (hN : X.N[0]? = some sl := by rfl) (hv : Vis X.env.scope sl := by first | exact Or.inl rfl | exact Or.inr (Or.inl rfl) | exact Or.inr (Or.inr rfl)) (hd : (sl == ("__debug__" : Str)) = false := by decide)
    (hcd : (sl == ("__classdict__" : Str)) = false := by decide) (hs : swapsWith e (some (.Attribute (.Name sl p) fld apos)) pos.line X.env = pure false := by rfl) :
    PSs X (.Assign [.Attribute (.Name sl p) fld apos] e pos :: rest) (tI X.K F0 H0 x C dx (fld :: ns) (f :: fs)) := by
  refine (pss_cons (ps_fld (pe_var hN hv hd hcd) he hs) hr).mono fun D σ H q => ?_
  obtain ⟨F, ev, ns0, vs0, ds', fi, hf, h0, hF, hH, hx, hl, cl, na, nd, hlen, e, m⟩ := q
  refine ⟨F, ev, fi, ?_⟩
  unfold fieldsR at e
  cases h1 : f ev with
  | no => rw [h1] at e; cases e
  | ex C => rw [h1] at e; cases e
  | ok k d =>
    rw [h1] at e
    intro F1 y H1 p1
    have key : ∀ F1, Post X.K F H .fz d F1 y H1 → (fieldsR ev fs).map (d :: ·) = some ds' → tVar 0 σ H1 fun x' H2 => ∃ a C1 dx1 gs, x' = .ref a ∧ H2 a = some (.ins C1 dx1 gs) ∧ Cls X.K C1 ∧ NoAttr X.K C1 fld ∧ gs.length < 1000 ∧
        tI X.K F0 H0 x C dx ns fs D σ (upd H2 a (.ins C1 dx1 (putF fld y gs))) := fun F1 p1 e => by
      have hF1 : F1 x = none := p1.st.unfz hx hF
      have hx1 : H1 x = some (.ins C dx (ns0.zip vs0)) := p1.st.keep _ _ hx
      have fi1 := fi.later p1.st
      have hfn : fld ∉ ns0 := fun z => (List.nodup_append.mp nd).2.2 fld z fld List.mem_cons_self rfl
      have hlen' : (ns0.zip vs0).length < 1000 := by
        rw [List.length_zip]; simp only [List.length_append] at hlen; omega
      refine ⟨.ref x, h0, x, C, dx, _, rfl, hx1, cl, na fld List.mem_cons_self, hlen', ?_⟩
      cases e2 : fieldsR ev fs with
      | none => rw [e2] at e; cases e
      | some ds2 =>
        rw [e2] at e; cases e
        refine ⟨F1, ev, ns0 ++ [fld], vs0 ++ [y], ds2, ⟨⟨fi1.st.up, fun b o q => ?_, fun b o q => ?_, fi1.st.new⟩, fun i k' d' q => ?_, fun i j d1 d2 hij q1 _ => ?_, fi1.len⟩, hf, h0, hF1, hH, ?_, by simp [hl], cl, fun g hg => na g (List.mem_cons_of_mem _ hg), ?_, ?_, e2, fun F' H' σ' vs' st hn sm hh rs => ?_⟩
        · rw [upd_ne]; exact fi1.sub _ _ q
          rintro rfl; rw [hF1] at q; cases q
        · rw [upd_ne]; exact fi1.st.keep _ _ q
          rintro rfl; rw [hH] at q; cases q
        · obtain ⟨nb, v, e3, hv'⟩ := fi1.at_ i k' d' q
          refine ⟨nb, v, e3, ?_⟩
          have := hf i k' d' q; subst this
          exact hv'
        · have := hf i _ _ q1; cases this
        · rw [upd_same, putF_new hfn hl]
        · rw [List.append_assoc]; exact nd
        · rw [List.append_assoc]; exact hlen
        · refine m F' H' σ' (y :: vs') st hn (p1.st.up.trans sm) ?_ (.cons (p1.val.mono sm) rs)
          rw [List.append_assoc, List.append_assoc] at hh
          exact hh
    cases k with
    | bo => cases e
    | fz => exact key F1 p1 e
    | ow => obtain ⟨F2, p2⟩ := p1.frz; exact key F2 p2 e
end
section
variable {P : Program} {w : World} {K : PySem.W.Frag} {mg : Str → Option Value} {base : Heap}
structure FunD (K : PySem.W.Frag) (x qual : Str) (st : Stmt) (f : Addr) (dV : Value) (fd : FuncData) : Prop where
  ex : ∃ (oc : Value) (od : Option Addr) (kV doc pm : Value) (an : Option Addr) (cdv ct : Value) (osl : Array (Option Value)),
    fd = PySem.W.fnOf x qual (defArgs st) (defBody st) (defScope st) dV kV doc pm an cdv ct ∧ K.lookup f = some ⟨oc, od, .func fd, osl⟩ ∧ PySem.W.codeIn K cdv qual = true
theorem fund_mk {x qual : Str} {st : Stmt} {f : Addr} {oc : Value} {od an : Option Addr} {osl : Array (Option Value)} {dV kV doc pm cdv ct : Value} (l : K.lookup f = some ⟨oc, od, .func (PySem.W.fnOf x qual (defArgs st) (defBody st) (defScope st) dV kV doc pm an cdv ct), osl⟩)
    (c : PySem.W.codeIn K cdv qual = true) : FunD K x qual st f dV (PySem.W.fnOf x qual (defArgs st) (defBody st) (defScope st) dV kV doc pm an cdv ct) := ⟨⟨oc, od, kV, doc, pm, an, cdv, ct, osl, rfl, l, c⟩⟩
theorem FunD.ok {x qual : Str} {st : Stmt} {f : Addr} {dV : Value} {fd : FuncData} {N ps : List Str} {k : Nat} {sp : Sp} (F : FunD K x qual st f dV fd) (S : FnScope N ps (defScope st)) (len : ∀ vs H Q E, sp vs H Q E → vs.length = ps.length)
    (hbody : ∀ (cdv : Value) (A : Around) (outer : List Env) (s : Shared) (H : Hp) (vs : List V) (Q : VK) (E : XK), Room k (A.deeper (PyProof.Rows.envOfC qual (defScope st) s.heap.objs.size f cdv)) → sp vs H Q E →
      ∃ t, PSs (cxOf CX0 P w K mg base N qual (defScope st) f cdv A outer s H E).nox (defBody st) t ∧ t { nx := fun _ H' => Q .non H', rt := Q } (start N vs) H) : FnOk P w K mg base CX0 (k + 1) f fd ps sp := by
  obtain ⟨oc, od, kV, doc, pm, an, cdv, ct, osl, rfl, lk, hcd⟩ := F.ex
  refine fn_of lk hcd S len fun A outer s H vs Q E hr hsp => ?_
  obtain ⟨t, h, q⟩ := hbody cdv A outer s H vs Q E hr hsp
  exact ⟨t, h.nox, q⟩
theorem init_ok {x qual : Str} {st : Stmt} {f : Addr} {dV : Value} {fd : FuncData} {ps ns : List Str} {k : Nat} {fs : List (Ev → R)} (F : FunD K x qual st f dV fd) (S : FnScope ps ps (defScope st)) (hnd : ns.Nodup) (hlen : ns.length < 1000)
    (hb : ∀ (cdv : Value) (A : Around) (outer : List Env) (s : Shared) (H : Hp) (E : XK) (F0 H0 : Hp) (o C dx : Addr), Room k (A.deeper (PyProof.Rows.envOfC qual (defScope st) s.heap.objs.size f cdv)) →
      PSs (cxOf CX0 P w K mg base ps qual (defScope st) f cdv A outer s H E).nox (defBody st) (tI K F0 H0 o C dx ns fs)) :
    FnOk P w K mg base CX0 (k + 1) f fd ps (spI K ns fs ps.length) := by
  refine F.ok S (fun vs H Q E h => ?_) (fun cdv A outer s H vs Q E hr h => ?_)
  · obtain ⟨F0, H0, x, C, dx, ds, rest, ds', rfl, _, _, _, _, _, r, hl, _⟩ := h
    rw [List.length_cons, ← r.length]; exact hl
  · obtain ⟨F0, H0, x, C, dx, ds, rest, ds', rfl, hH, hx, hdx, hne, sub, r, hl, cl, na, e, m⟩ := h
    refine ⟨_, hb cdv A outer s H E F0 H0 x C dx hr, F0, none :: ds.map (fun d => some (.fz, d)), [], [], ds', ⟨⟨.refl _, fun b o q => ?_, fun b o q => ?_, fun a o q => .inl q⟩, fun i k' d q => ?_, fun i j d1 d2 hij q1 _ => ?_, ?_⟩, fun i k' d q => ?_, ?_, ?_, hx, ?_, rfl, cl, na, hnd, hlen, e, fun F' H' σ' vs' st hn _ hh rs => m F' H' vs' st hn hh rs⟩
    · have := sub _ _ q
      subst hH
      rw [upd_ne, upd_ne]; exact this
      · rintro rfl; rw [hdx] at this; cases this
      · rintro rfl; rw [hx] at this; cases this
    · subst hH
      rw [upd_ne, upd_ne]; exact q
      · rintro rfl; rw [hdx] at q; cases q
      · rintro rfl; rw [hx] at q; cases q
    · cases i with
      | zero => simp at q
      | succ i =>
        rw [List.getElem?_cons_succ, List.getElem?_map] at q
        cases z : ds[i]? with
        | none => rw [z] at q; cases q
        | some d0 =>
          rw [z] at q; cases q
          obtain ⟨v, e1, rv⟩ := r.get z
          refine ⟨by simp, v, ?_, rv⟩
          unfold L2.start
          have hi : i + 1 < ((V.ref x :: rest).map some).length := by
            simp only [List.map_cons, List.length_cons, List.length_map]
            have := (List.getElem?_eq_some_iff.mp e1).1; omega
          rw [List.getElem?_append_left hi, List.map_cons, List.getElem?_cons_succ, List.getElem?_map, e1]
          rfl
    · cases i with
      | zero => simp at q1
      | succ i =>
        rw [List.getElem?_cons_succ, List.getElem?_map] at q1
        cases z : ds[i]? with
        | none => rw [z] at q1; cases q1
        | some d0 => rw [z] at q1; cases q1
    · have := r.length
      unfold L2.start
      simp only [List.length_cons, List.length_append, List.length_map, List.length_replicate]; omega
    · cases i with
      | zero => simp at q
      | succ i =>
        rw [List.getElem?_cons_succ, List.getElem?_map] at q
        cases z : ds[i]? with
        | none => rw [z] at q; cases q
        | some d0 => rw [z] at q; cases q; rfl
    · unfold L2.start; rfl
    · exact sub.free hx
    · subst hH; rw [upd_same]; rfl
structure MkOk (P : Program) (w : World) (K : PySem.W.Frag) (mg : Str → Option Value) (base : Heap) (k : Nat) (c : Str) (ns : List Str) (fs : List (Ev → R)) (n : Nat) (dv : List D) : Prop where
  ex : ∃ C f fd ps dvs ds, PySem.W.nsIn K mainGlobals c = some (some (.ref C)) ∧ mg c = some (.ref C) ∧ Cls K C ∧ (∀ f ∈ ns, NoAttr K C f) ∧ Mk K C f ∧ FnOk P w K mg base CX0 k f fd ps (spI K ns fs n) ∧ Binds K fd ps ds ∧ Vals dvs ds ∧ (∀ F, Reps K F dv dvs) ∧ ns.length = fs.length
end
noncomputable def makeR (c : Str) (ns : List Str) (fs : List (Ev → R)) (n : Nat) (dv : List D) : RA → R
  | .ok l => match allFz l with
    | some ds => if ds.length + dv.length + 1 = n then (match initR fs (ds ++ dv) with
      | some ds' => .ok .fz (.obj c ns ds')
      | none => .no) else .no
    | none => .no
  | .ex C => .ex C
  | .no => .no
noncomputable def eMake (c : Str) (ns : List Str) (fs : List (Ev → R)) (n : Nat) (dv : List D) (as : Ev → RA) (ev : Ev) : R := makeR c ns fs n dv (as ev)
theorem fieldsR_length {ev : Ev} : ∀ {fs : List (Ev → R)} {ds : List D}, fieldsR ev fs = some ds → ds.length = fs.length
  | [], _, h => by cases h; rfl
  | f :: fs, ds, h => by
    unfold fieldsR at h
    have go : ∀ d, (fieldsR ev fs).map (d :: ·) = some ds → ds.length = (f :: fs).length := fun d h => by
      cases q : fieldsR ev fs with
      | none => rw [q] at h; cases h
      | some ds' => rw [q] at h; cases h; simp [fieldsR_length q]
    cases q : f ev with
    | no => rw [q] at h; cases h
    | ex C => rw [q] at h; cases h
    | ok k d =>
      rw [q] at h
      cases k with
      | bo => cases h
      | fz => exact go d h
      | ow => exact go d h
section
variable {X : Cx} {F0 H0 : Hp} {Ψ : Psi} {k n : Nat} {c : Str} {ns : List Str} {fs : List (Ev → R)} {dv : List D} {as : Ev → RA} {e : Expr} {es : List Expr} {p pos : Pos}
theorem made_of {K : PySem.W.Frag} {F H F1 H1 F' H' : Hp} {x C dx : Addr} {ds' : List D} {vs' : List V} (s : Step F H F1 H1) (hx : H1 x = none) (st : Step F1 H1 F' H') (hn : F' x = none) (hC : PySem.W.nsIn K mainGlobals c = some (some (.ref C))) (hl : ns.length = vs'.length)
    (hh : H' x = some (.ins C dx (ns.zip vs'))) (rs : Reps K F' ds' vs') : ∃ F2, Post K F H .fz (.obj c ns ds') F2 (.ref x) H' := by
  have up : Same F' (upd F' x (.ins C dx (ns.zip vs'))) := fun b o q => by
    rw [upd_ne]; exact q
    rintro rfl; rw [hn] at q; cases q
  have s' := s.trans st
  refine ⟨upd F' x (.ins C dx (ns.zip vs')), ⟨s'.up.trans up, fun b o q => ?_, s'.keep, fun b o q => ?_⟩, ?_⟩
  · by_cases hb : b = x
    · subst hb; rw [upd_same] at q; cases q; exact hh
    · rw [upd_ne hb] at q; exact s'.sub _ _ q
  · by_cases hb : b = x
    · subst hb; exact .inr (s.keep.free hx)
    · rw [upd_ne hb] at q; exact s'.new _ _ q
  · show Rep _ _ _ _
    rw [Rep]
    exact ⟨x, C, dx, vs', rfl, hC, upd_same, hl, rs.mono up⟩
theorem v_make (M : MkOk X.prog X.w X.K X.mg X.base k c ns fs n dv) (hr : Room (k + 1) X.A) (ha : VA X F0 H0 Ψ (e :: es) as) (hg : Gl X c := by rfl) (hdb : (c == ("__debug__" : Str)) = false := by decide)
    (he : starEach (e :: es) X.env = (false, eval e X.env) :: starEach es X.env := by rfl) (hpl : (backTo pos (starEach es X.env)).any (·.1) = false := by rfl) :
    VE X F0 H0 Ψ (.Call (.Name c p) (e :: es) [] pos) (eMake c ns fs n dv as) := by
  obtain ⟨C, f, fd, ps, dvs, dsv, hC, hm, cl, na, mk, Fk, hb, hd, rd, hnf⟩ := M.ex
  refine (pe_make (E := E0) mk Fk hr hg hm hb hd pass0 ha hdb he hpl).mono fun σ H Q h => ?_
  obtain ⟨F, ev, fi, m⟩ := h
  refine ⟨F, ev, fi, ?_⟩
  unfold eMake at m
  cases h1 : as ev with
  | no => rw [h1] at m; exact m
  | ex C => rw [h1] at m; exact m
  | ok l =>
    rw [h1] at m
    intro F1 vs H1 s va x dx hx hdx hne
    simp only [makeR] at m
    cases h2 : allFz l with
    | none => rw [h2] at m; exact m.elim
    | some ds =>
      rw [h2] at m
      dsimp only at m
      by_cases hn : ds.length + dv.length + 1 = n
      · rw [if_pos hn] at m
        cases h3 : initR fs (ds ++ dv) with
        | none => rw [h3] at m; exact m.elim
        | some ds' =>
          rw [h3] at m
          refine ⟨F1, H1, x, C, dx, ds ++ dv, vs ++ dvs, ds', rfl, rfl, hx, hdx, hne, s.sub, (va.fz h2).app (rd F1), by rw [List.length_append]; exact hn, cl, na, h3, fun F' H' vs' st hn' hh rs => ⟨rfl, ?_⟩⟩
          obtain ⟨F2, p2⟩ := made_of (K := X.K) (ns := ns) s hx st hn' hC (by rw [← rs.length, fieldsR_length h3]; exact hnf) hh rs
          exact m F2 _ _ p2
      · rw [if_neg hn] at m; exact m.elim
end
end L3
set_option Elab.async false
set_option linter.all false
set_option maxRecDepth 100000
namespace L3
open PySem L2 PySem.W
noncomputable def tMake0 (C : Addr) : TE := fun σ H Q => ∀ x dx, H x = none → H dx = none → dx ≠ x → Q (.ref x) (upd (upd H dx (.own x)) x (.ins C dx []))
structure Mk0 (K : PySem.W.Frag) (C : Addr) : Prop where
  makes : PySem.W.makesIn K C = true
  init : PySem.W.findIn K (.ref C) "__init__" = some (some (.builtin "object.__init__"))
  kp : PySem.W.keepIn K (.ref C) = true
section
variable {X : Cx} {C : Addr} {x : Str} {p pos : Pos}
theorem pe_makeP (M : Mk0 X.K C) (hg : Gl X x) (hm : X.mg x = some (.ref C)) (hdb : (x == ("__debug__" : Str)) = false := by decide) : PE X (.Call (.Name x p) [] [] pos) (tMake0 C) := by
  intro pins s σ H Q I h
  refine wpAny_Call_Name_kw (ld_glob I hg hm ?_ hdb)
  refine PySem.W.callWith_K0 I.kIn M.kp ?_
  have I2 := Inv.made (C := C) I
  have hq := h (s.heap.objs.size + 1) s.heap.objs.size (I.hok.fresh (Nat.le_succ _)) (I.hok.fresh (Nat.le_refl _)) (Nat.ne_of_lt (Nat.lt_succ_self _))
  have Y := makes_of (M := model X.prog X.w) I.kIn M.makes
  have e2 : ((s.heap.push PySem.W.emptyDict).push (PySem.W.instObj C s.heap.objs.size)).get? (s.heap.objs.size + 1) = some (PySem.W.instObj C s.heap.objs.size) := by
    have := Heap.get?_push_size (s.heap.push PySem.W.emptyDict) (o := PySem.W.instObj C s.heap.objs.size) rfl
    rwa [Heap.size_push] at this
  refine wpAny_call (make_map0 I.kIn M.makes M.init (fun self => Looks.of_pure (oi_bind self)) ?_)
  have t1 : Looks (model X.prog X.w) ((s.heap.push emptyDict).push (instObj C s.heap.objs.size)) (typeOf (.ref (s.heap.objs.size + 1))) (.ref C) := (Looks.ld e2).andThen .now
  have t2 : Looks (model X.prog X.w) ((s.heap.push emptyDict).push (instObj C s.heap.objs.size)) (isInstance (.ref (s.heap.objs.size + 1)) (.type "object")) true := t1.andThen (Y.top.keeps fun b o e => Heap.get?_push_of_some _ (Heap.get?_push_of_some _ e))
  refine codeAny_call_builtin oi_plain entry_oi (@check_slot (model X.prog X.w) _ _ _ "object.__init__" "object" "__init__" (.ref (s.heap.objs.size + 1)) [] [] _ oi_kind oi_split t2 (oi_args (.ref (s.heap.objs.size + 1))) ?_)
  rw [oi_run]
  exact wpAny_pure (And.intro rfl ⟨V.ref (s.heap.objs.size + 1), _, I2, rfl, hq⟩)
noncomputable def eNew (c : Str) (_ : Ev) : R := .ok .fz (.obj c [] [])
theorem v_new {F0 H0 : Hp} {Ψ : Psi} (hC : ∃ C, PySem.W.nsIn X.K mainGlobals x = some (some (.ref C)) ∧ X.mg x = some (.ref C) ∧ Mk0 X.K C) (hg : Gl X x := by rfl) (hdb : (x == ("__debug__" : Str)) = false := by decide) : VE X F0 H0 Ψ (.Call (.Name x p) [] [] pos) (eNew x) := by
  obtain ⟨C, hn, hm, M⟩ := hC
  refine (pe_makeP M hg hm hdb).mono fun σ H Q q => ?_
  obtain ⟨F, ev, fi, m⟩ := q
  intro o dx hx hdx hne
  have st : Step F H F (upd (upd H dx (.own o)) o (.ins C dx [])) := by
    have k : Same H (upd (upd H dx (.own o)) o (.ins C dx [])) := fun b u e => by
      rw [upd_ne, upd_ne]; exact e
      · rintro rfl; rw [hdx] at e; cases e
      · rintro rfl; rw [hx] at e; cases e
    exact ⟨.refl _, fi.sub.trans k, k, fun a u e => .inl e⟩
  obtain ⟨F2, p2⟩ := made_of (K := X.K) (c := x) (ns := []) (ds' := []) (vs' := []) fi.refl hx st (fi.sub.free hx) hn rfl (by rw [upd_same]; rfl) .nil
  exact m F2 _ _ p2
end
noncomputable def isCD (tab : List (Str × Bool)) : R → R
  | .ok _ (.obj c _ _) => match tab.lookup c with
    | some b => .ok .fz (.bl b)
    | none => .no
  | .ok _ _ => .no
  | .ex C => .ex C
  | .no => .no
noncomputable def eIsC (tab : List (Str × Bool)) (g : Ev → R) (ev : Ev) : R := isCD tab (g ev)
structure IsOne (K : PySem.W.Frag) (S : Addr) (c : Str) (b : Bool) (C : Addr) : Prop where
  ns : PySem.W.nsIn K mainGlobals c = some (some (.ref C))
  cl : Cls K C
  ha : PySem.W.findIn K (.ref C) "__class__" = some (some (.builtin "object.__class__"))
  hn : PySem.W.specialIn K (.builtin "object.__class__") "__get__" = some (some (.builtin "getset_descriptor.__get__"))
  htk : PySem.W.takesIn K (.builtin "object.__class__") = some true
  hm : PySem.W.mroIn K C (.type "object") = some true
  kit : PySem.W.kitOne K (.ref C) (.ref S) = some b
noncomputable def IsOk (K : PySem.W.Frag) (S : Addr) (tab : List (Str × Bool)) : Prop := ∀ c b, (c, b) ∈ tab → ∃ C, IsOne K S c b C
theorem is_nil {K : PySem.W.Frag} {S : Addr} : IsOk K S [] := fun _ _ h => by simp at h
theorem is_cons {K : PySem.W.Frag} {S C : Addr} {c : Str} {b : Bool} {tab : List (Str × Bool)} (h : IsOne K S c b C) (r : IsOk K S tab) : IsOk K S ((c, b) :: tab) := fun c' b' q => by
  rcases List.mem_cons.mp q with q | q
  · cases q; exact ⟨C, h⟩
  · exact r c' b' q
section
variable {X : Cx} {F0 H0 : Hp} {Ψ : Psi} {e : Expr} {g : Ev → R} {s : Str} {p p2 pos : Pos} {tab : List (Str × Bool)}
noncomputable def rIsC (K : PySem.W.Frag) : List V → Hp → VK → Prop := fun xs H Q => ∃ x t S b, xs = [x, .ref S] ∧ TyOf K H x t ∧ PySem.W.kitOne K t (.ref S) = some b ∧ Q (.bl b) H
theorem call_isC : CallR X (.builtin "isinstance") (rIsC X.K) := by
  intro pins s σ H xs us Q I r h
  obtain ⟨x, t, S, b, rfl, ty, e, q⟩ := h
  obtain ⟨u, w', rfl, rx, rw'⟩ := vals2 r
  cases rw'
  exact isinst_ok I rx ty e fun tk => ⟨.bl b, H, I.tok tk, rfl, q⟩
theorem v_isC (hm : X.mg "isinstance" = none) (hS : ∃ S, X.mg s = some (.ref S) ∧ IsOk X.K S tab) (he : VE X F0 H0 Ψ e g) (hgl : Gl X "isinstance" := by rfl) (hgs : Gl X s := by rfl) (hds : (s == ("__debug__" : Str)) = false := by decide)
    (hst : starEach (e :: [.Name s p2]) X.env = (false, eval e X.env) :: starEach [.Name s p2] X.env := by rfl) (hst2 : starEach [.Name s p2] X.env = (false, eval (.Name s p2) X.env) :: starEach [] X.env := by rfl) (hpl : (backTo pos (starEach [.Name s p2] X.env)).any (·.1) = false := by rfl) :
    VE X F0 H0 Ψ (.Call (.Name "isinstance" p) [e, .Name s p2] [] pos) (eIsC tab g) := by
  obtain ⟨S, hS, ok⟩ := hS
  refine (pe_callB call_isC hgl hm (by rfl) (pa_cons he (pa_cons (pe_glob (v := .ref S) hgs hS rfl hds) pa_nil hst2) hst) (by decide) (by decide) hst hpl).mono fun σ H Q q => ?_
  obtain ⟨F, ev, fi, m⟩ := q
  refine ⟨F, ev, fi, ?_⟩
  unfold eIsC at m
  cases h1 : g ev with
  | no => rw [h1] at m; exact m
  | ex C => rw [h1] at m; exact m
  | ok k d =>
    rw [h1] at m
    intro F1 x H1 p1
    cases d with
    | obj c ns xs =>
      simp only [isCD] at m
      cases q : tab.lookup c with
      | none => rw [q] at m; exact m.elim
      | some b =>
        rw [q] at m
        obtain ⟨a, C, dx, vs, rfl, hC, ha, hl, rs⟩ := p1.val.rd.obj p1.st.sub
        obtain ⟨C', O⟩ := ok c b (lookup_mem q)
        have hC' := O.ns
        rw [hC] at hC'; cases hC'
        exact ⟨_, _, S, b, rfl, .ins ha O.cl O.ha O.hn O.htk O.hm, O.kit, m F1 _ H1 (.pure p1.st (by rw [Rep]))⟩
    | _ => exact m.elim
end
section
variable {P : Program} {w : World} {K : PySem.W.Frag} {mg : Str → Option Value} {base : Heap}
noncomputable def KBind (K : PySem.W.Frag) (fd : FuncData) (ps ks : List Str) : Prop := ∀ (s : Shared) (us ws : List Value), K.In s.heap → ws.length = ks.length → (us ++ ws).length = ps.length → BindsTo s fd ⟨us, ks.zip ws⟩ (ps.zip (us ++ ws))
structure MkOkK (P : Program) (w : World) (K : PySem.W.Frag) (mg : Str → Option Value) (base : Heap) (k : Nat) (c : Str) (ns : List Str) (fs : List (Ev → R)) (n : Nat) (ks : List Str) : Prop where
  ex : ∃ C f fd ps, PySem.W.nsIn K mainGlobals c = some (some (.ref C)) ∧ mg c = some (.ref C) ∧ Cls K C ∧ (∀ f ∈ ns, NoAttr K C f) ∧ Mk K C f ∧ FnOk P w K mg base CX0 k f fd ps (spI K ns fs n) ∧ KBind K fd ps ks ∧ ns.length = fs.length
end
noncomputable def appA : RA → RA → RA
  | .ok l, .ok l' => .ok (l ++ l')
  | .ok _, r => r
  | .ex C, _ => .ex C
  | .no, _ => .no
noncomputable def eMakeK (c : Str) (ns : List Str) (fs : List (Ev → R)) (n m : Nat) (as ks : Ev → RA) (ev : Ev) : R := match ks ev with
  | .ok l => if l.length = m then makeR c ns fs n [] (appA (as ev) (.ok l)) else .no
  | r => makeR c ns fs n [] (appA (as ev) r)
noncomputable def VKw (X : Cx) (F0 H0 : Hp) (Ψ : Psi) (kws : List Keyword) (f : Ev → RA) : Prop := PK X kws (tVA X.K F0 H0 Ψ f)
theorem allFz_app : ∀ {l l' : List (Kd × D)} {ds : List D}, allFz (l ++ l') = some ds → ∃ a b, allFz l = some a ∧ allFz l' = some b ∧ ds = a ++ b
  | [], l', ds, h => ⟨[], ds, rfl, h, rfl⟩
  | (.fz, d) :: l, l', ds, h => by
    simp only [List.cons_append, allFz] at h ⊢
    cases q : allFz (l ++ l') with
    | none => rw [q] at h; cases h
    | some ds' =>
      rw [q] at h; cases h
      obtain ⟨a, b, h1, h2, rfl⟩ := allFz_app q
      exact ⟨d :: a, b, by rw [h1]; rfl, h2, rfl⟩
  | (.ow, d) :: l, l', ds, h => by simp [allFz] at h
  | (.bo, d) :: l, l', ds, h => by simp [allFz] at h
section
variable {X : Cx} {F0 H0 : Hp} {Ψ : Psi} {k n : Nat} {c : Str} {ns ks : List Str} {fs : List (Ev → R)} {as ka : Ev → RA} {g : Ev → R} {e : Expr} {es : List Expr} {kws : List Keyword} {p pos kpos : Pos} {nm : Option Str}
theorem vk_nil : VKw X F0 H0 Ψ [] aNil := fun pos pins s σ H Q I h => pk_nil pos pins s σ H Q I (tNil_of h)
theorem vk_cons (he : VE X F0 H0 Ψ e g) (hr : VKw X F0 H0 Ψ kws as) : VKw X F0 H0 Ψ (⟨nm, e, kpos⟩ :: kws) (aCons g as) := fun pos pins s σ H Q I h => pk_cons he hr pos pins s σ H Q I (tCons_of h)
theorem v_makeK {m : Nat} (M : MkOkK X.prog X.w X.K X.mg X.base k c ns fs n ks) (hr : Room (k + 1) X.A) (ha : VA X F0 H0 Ψ (e :: es) as) (hkw : VKw X F0 H0 Ψ kws ka) (hall : (backToKw pos (keywordEach kws X.env)).all (·.1.isSome) = true := by rfl) (hks : (backToKw pos (keywordEach kws X.env)).filterMap (·.1) = ks := by rfl)
    (hlm : ks.length = m := by rfl) (hg : Gl X c := by rfl) (hdb : (c == ("__debug__" : Str)) = false := by decide) (he : starEach (e :: es) X.env = (false, eval e X.env) :: starEach es X.env := by rfl)
    (hpl : ((backTo pos (starEach (e :: es) X.env)).any (·.1) || (backToKw pos (keywordEach kws X.env)).any (·.1.isNone)) = false := by rfl) :
    VE X F0 H0 Ψ (.Call (.Name c p) (e :: es) kws pos) (eMakeK c ns fs n m as ka) := by
  subst hlm
  obtain ⟨C, f, fd, ps, hC, hm, cl, na, mk, Fk, hb, hnf⟩ := M.ex
  intro pins s σ H Q I h
  refine wpAny_Call_Name_kw (ld_glob I hg hm ?_ hdb)
  obtain ⟨F, ev, fi, m⟩ := h
  unfold eMakeK at m
  refine PySem.W.callWith_KW (h₀ := X.base) I.ok.mod.kin mk.kp hall (thn (ha pos pins s σ H (fun vs H1 => tVA X.K F0 H0 Ψ ka σ H1 fun zs H2 => ∀ x dx, H2 x = none → H2 dx = none → dx ≠ x → zs.length = ks.length ∧ spI X.K ns fs n (.ref x :: (vs ++ zs)) (upd (upd H2 dx (.own x)) x (.ins C dx [])) (fun v H3 => v = .non ∧ Q (.ref x) H3) E0) I ⟨F, ev, fi, ?_⟩) fun us s1 ⟨vs, H1, I1, r, q⟩ => ?_) hpl he
  · cases h1 : as ev with
    | no =>
      rw [h1] at m
      cases h2 : ka ev with
      | ok l =>
        rw [h2] at m
        dsimp only at m
        by_cases z : l.length = ks.length
        · rw [if_pos z] at m; exact m
        · rw [if_neg z] at m; exact m.elim
      | ex C => rw [h2] at m; exact m
      | no => rw [h2] at m; exact m
    | ex C' =>
      rw [h1] at m
      cases h2 : ka ev with
      | ok l =>
        rw [h2] at m
        dsimp only at m
        by_cases z : l.length = ks.length
        · rw [if_pos z] at m; exact m
        · rw [if_neg z] at m; exact m.elim
      | ex C => rw [h2] at m; exact m
      | no => rw [h2] at m; exact m
    | ok l =>
      rw [h1] at m
      intro F1 vs H1 s1 va
      refine ⟨F1, ev, fi.later s1, ?_⟩
      cases h2 : ka ev with
      | no => rw [h2] at m; exact m
      | ex C => rw [h2] at m; exact m
      | ok l2 =>
        rw [h2] at m
        dsimp only at m
        intro F2 zs H2 s2 vz x dx hx hdx hne
        by_cases hlk : l2.length = ks.length
        · rw [if_pos hlk] at m
          simp only [appA, makeR] at m
          cases h3 : allFz (l ++ l2) with
          | none => rw [h3] at m; exact m.elim
          | some ds =>
            rw [h3] at m
            dsimp only at m
            by_cases hn : ds.length + 0 + 1 = n
            · simp only [List.length_nil] at m
              rw [if_pos hn, List.append_nil] at m
              cases h4 : initR fs ds with
              | none => rw [h4] at m; exact m.elim
              | some ds' =>
                rw [h4] at m
                obtain ⟨da, db, e1, e2, rfl⟩ := allFz_app h3
                have st := s1.trans s2
                refine ⟨by rw [← vz.length]; exact hlk, F2, H2, x, C, dx, da ++ db, vs ++ zs, ds', rfl, rfl, hx, hdx, hne, s2.sub, ((va.later s2).fz e1).app (vz.fz e2), hn, cl, na, h4, fun F' H' vs' st' hn' hh rs => ⟨rfl, ?_⟩⟩
                obtain ⟨F3, p3⟩ := made_of (K := X.K) (ns := ns) st hx st' hn' hC (by rw [← rs.length, fieldsR_length h4]; exact hnf) hh rs
                exact m F3 _ _ p3
            · simp only [List.length_nil] at m
              rw [if_neg hn] at m; exact m.elim
        · rw [if_neg hlk] at m; exact m.elim
  · refine thn (hkw pos pins s1 σ H1 _ I1 q) fun ws s2 ⟨zs, H2, I2, rz, q2⟩ => ⟨I2.kIn, ?_⟩
    rw [hks]
    have I3 := Inv.made (C := C) I2
    obtain ⟨hzl, hq⟩ := q2 (s2.heap.objs.size + 1) s2.heap.objs.size (I2.hok.fresh (Nat.le_succ _)) (I2.hok.fresh (Nat.le_refl _)) (Nat.ne_of_lt (Nat.lt_succ_self _))
    have r2 : Vals (V.ref (s2.heap.objs.size + 1) :: (vs ++ zs)) (Value.ref (s2.heap.objs.size + 1) :: (us ++ ws)) := .cons rfl (r.append rz)
    have hl : (Value.ref (s2.heap.objs.size + 1) :: us ++ ws).length = ps.length := by
      have e := r2.length
      rw [Fk.len _ _ _ _ hq] at e
      exact e.symm
    refine wpAny_call (make_map (f := f) I2.kIn mk.makes mk.init (beq_iff_eq.mp mk.fn) (codeAny_mono (Fk.run _ X.stack _ _ ⟨Value.ref (s2.heap.objs.size + 1) :: us, ks.zip ws⟩ (Value.ref (s2.heap.objs.size + 1) :: (us ++ ws)) _ _ E0 (hr.make C us (ks.zip ws))
      (I3.env0.make C us (ks.zip ws)) (hb _ (Value.ref (s2.heap.objs.size + 1) :: us) ws I3.kIn (by rw [← rz.length]; exact hzl) hl) r2 hq) fun r s' hq' => ?_))
    cases r with
    | error e => exact hq'.elim
    | ok fl =>
      cases fl with
      | ret u =>
        obtain ⟨v, H', I4, rv, ev', q3⟩ := I3.after hq'
        subst ev'
        exact ⟨rv, ⟨V.ref (s2.heap.objs.size + 1), H', I4, rfl, q3⟩⟩
      | next => exact False.elim hq'
      | brk => exact False.elim hq'
      | cont => exact False.elim hq'
end
theorem binds_len {K : PySem.W.Frag} {fd : FuncData} {ps : List Str} {ds : List Value} (k : Nat) (hk : k + ds.length = ps.length) (h : ∀ (s : Shared) (us : List Value), K.In s.heap → us.length = k → BindsTo s fd ⟨us, []⟩ (ps.zip (us ++ ds))) : Binds K fd ps ds :=
  fun s us kin hl => h s us kin (by rw [List.length_append] at hl; omega)
theorem kbind_len {K : PySem.W.Frag} {fd : FuncData} {ps ks : List Str} (k : Nat) (hk : k + ks.length = ps.length) (h : ∀ (s : Shared) (us ws : List Value), K.In s.heap → us.length = k → ws.length = ks.length → BindsTo s fd ⟨us, ks.zip ws⟩ (ps.zip (us ++ ws))) : KBind K fd ps ks :=
  fun s us ws kin hw hl => h s us ws kin (by rw [List.length_append] at hl; omega) hw
end L3
set_option Elab.async false
set_option linter.all false
set_option maxRecDepth 100000
namespace L3
open PySem L2
section
variable {X : Cx} {F0 H0 : Hp} {Ψ : Psi} {a b e : Expr} {f f1 f2 : Ev → R} {p2 pos pos' : Pos}
noncomputable def isStrR : R → Bool
  | .ok _ (.str _) => true
  | _ => false
noncomputable def eSlX (f1 f2 : Ev → R) (ev : Ev) : R := if isStrR (f1 ev) = true then eSlS f1 f2 ev else eSl f1 (oSome f2) oNo ev
theorem v_slX (ha : VE X F0 H0 Ψ a f1) (hb : VE X F0 H0 Ψ b f2) : VE X F0 H0 Ψ (.Subscript a (.Slice (some b) none none p2) pos) (eSlX f1 f2) := fun pins s σ H Q I h => by
  obtain ⟨F, ev, fi, m⟩ := h
  unfold eSlX at m
  by_cases c : isStrR (f1 ev) = true
  · rw [if_pos c] at m; exact v_slS ha hb pins s σ H Q I ⟨F, ev, fi, m⟩
  · rw [if_neg c] at m; exact v_sl ha (vo_some hb) vo_none pins s σ H Q I ⟨F, ev, fi, m⟩
noncomputable def isTupR : R → Bool
  | .ok _ (.tup _) => true
  | _ => false
noncomputable def iLT (f : Ev → R) (ev : Ev) : RI := if isTupR (f ev) = true then iTupl f ev else iLst f ev
theorem vi_lt {tg : Expr} (h : VE X F0 H0 Ψ e f) : VI X F0 H0 Ψ tg e (iLT f) := fun pins s σ H Q I q => by
  obtain ⟨F, ev, fi, m⟩ := q
  unfold iLT at m
  by_cases c : isTupR (f ev) = true
  · rw [if_pos c] at m; exact vi_tup h pins s σ H Q I ⟨F, ev, fi, m⟩
  · rw [if_neg c] at m; exact vi_list h pins s σ H Q I ⟨F, ev, fi, m⟩
end
end L3
set_option Elab.async false
set_option linter.all false
set_option maxRecDepth 100000
namespace L3
open PySem L2
section
variable {ev e : Ev} {f f1 f2 c : Ev → R} {fs : Ev → RA} {g h body : Ev → Fl} {k k1 k2 : Kd} {d d1 d2 : D} {C : Addr} {i n : Nat}
@[simp] theorem ev_at0 {α : Type} {a : α} {l : List α} : (a :: l)[0]? = some a := (rfl)
noncomputable def bindFl (r : Fl) (h : Ev → Fl) : Fl := match r with
  | .nx e => h e
  | r => r
@[simp] theorem seqG_eq : seqG g h ev = bindFl (g ev) h := (rfl)
@[simp] theorem bind_nx : bindFl (.nx e) h = h e := (rfl)
@[simp] theorem bind_rt : bindFl (.rt k d) h = .rt k d := (rfl)
@[simp] theorem bind_ct : bindFl (.ct e) h = .ct e := (rfl)
noncomputable def setR (i : Nat) (r : R) (ev : Ev) : Fl := match r with
  | .ok .bo _ => .no
  | .ok k d => .nx (ev.set i (some (k, d)))
  | .ex C => .ex C
  | .no => .no
@[simp] theorem setG_eq : setG i f ev = setR i (f ev) ev := (rfl)
@[simp] theorem setR_fz : setR i (.ok .fz d) ev = .nx (ev.set i (some (.fz, d))) := (rfl)
@[simp] theorem setR_ow : setR i (.ok .ow d) ev = .nx (ev.set i (some (.ow, d))) := (rfl)
noncomputable def retR (r : R) : Fl := match r with
  | .ok .bo _ => .no
  | .ok k d => .rt k d
  | .ex C => .ex C
  | .no => .no
@[simp] theorem retG_eq : retG f ev = retR (f ev) := (rfl)
@[simp] theorem retR_fz : retR (.ok .fz d) = .rt .fz d := (rfl)
noncomputable def retVR (o : Option (Option (Kd × D))) : Fl := match o with
  | some (some (.fz, d)) => .rt .fz d
  | some (some (.ow, d)) => .rt .ow d
  | _ => .no
@[simp] theorem retVarG_eq : retVarG i ev = retVR ev[i]? := (rfl)
@[simp] theorem retVR_ow : retVR (some (some (.ow, d))) = .rt .ow d := (rfl)
noncomputable def ifFl (r : R) (g h : Ev → Fl) (ev : Ev) : Fl := match r with
  | .ok _ (.bl b) => if b then g ev else h ev
  | .ex C => .ex C
  | _ => .no
@[simp] theorem ifG_eq : ifG c g h ev = ifFl (c ev) g h ev := (rfl)
@[simp] theorem ifFl_t : ifFl (.ok k (.bl true)) g h ev = g ev := (rfl)
@[simp] theorem ifFl_f : ifFl (.ok k (.bl false)) g h ev = h ev := (rfl)
@[simp] theorem frzG_eq : frzG i g ev = g (frzEv i ev) := (rfl)
noncomputable def frzO (i : Nat) (o : Option (Option (Kd × D))) (ev : Ev) : Ev := match o with
  | some (some (.ow, d)) => ev.set i (some (.fz, d))
  | _ => ev
@[simp] theorem frzEv_eq : frzEv i ev = frzO i ev[i]? ev := (rfl)
@[simp] theorem frzO_ow : frzO i (some (some (.ow, d))) ev = ev.set i (some (.fz, d)) := (rfl)
@[simp] theorem frzO_fz : frzO i (some (some (.fz, d))) ev = ev := (rfl)
noncomputable def appR (i : Nat) (o : Option (Option (Kd × D))) (f : Ev → R) (ev : Ev) : Fl := match o with
  | some (some (.ow, .lst ds)) => match f ev with
    | .ok .bo _ => .no
    | .ok _ d => if ds.length < LIM then .nx (ev.set i (some (.ow, .lst (ds ++ [d])))) else .no
    | .ex C => .ex C
    | .no => .no
  | _ => .no
noncomputable def appR2 (i : Nat) (ds : List D) (r : R) (ev : Ev) : Fl := match r with
    | .ok .bo _ => .no
    | .ok _ d => if ds.length < LIM then .nx (ev.set i (some (.ow, .lst (ds ++ [d])))) else .no
    | .ex C => .ex C
    | .no => .no
@[simp] theorem appG_eq : appG i f ev = appR i ev[i]? f ev := (rfl)
@[simp] theorem appR_ow {ds : List D} : appR i (some (some (.ow, .lst ds))) f ev = appR2 i ds (f ev) ev := (rfl)
@[simp] theorem appR2_fz {ds : List D} : appR2 i ds (.ok .fz d) ev = if ds.length < LIM then .nx (ev.set i (some (.ow, .lst (ds ++ [d])))) else .no := (rfl)
noncomputable def varO (o : Option (Option (Kd × D))) : R := match o with
  | some (some (.fz, d)) => .ok .fz d
  | some (some (.ow, d)) => .ok .bo d
  | _ => .no
@[simp] theorem varR_eq : varR i ev = varO ev[i]? := (rfl)
@[simp] theorem varO_fz : varO (some (some (.fz, d))) = .ok .fz d := (rfl)
@[simp] theorem varO_ow : varO (some (some (.ow, d))) = .ok .bo d := (rfl)
@[simp] theorem conR_eq : conR d ev = .ok .fz d := (rfl)
@[simp] theorem eOp_eq {g : G2} : eOp g f1 f2 ev = op2 g (f1 ev) (f2 ev) := (rfl)
@[simp] theorem op2_ok {g : G2} : op2 g (.ok k1 d1) (.ok k2 d2) = toR (g d1 d2) := (rfl)
@[simp] theorem toR_some : toR (some (k, d)) = .ok k d := (rfl)
@[simp] theorem eAnd_eq : eAnd f1 f2 ev = andR (f1 ev) (f2 ev) := (rfl)
@[simp] theorem eOr_eq : eOr f1 f2 ev = orR (f1 ev) (f2 ev) := (rfl)
@[simp] theorem eNot_eq : eNot f ev = notR (f ev) := (rfl)
@[simp] theorem andR_f {r : R} : andR (.ok k (.bl false)) r = .ok .fz (.bl false) := (rfl)
@[simp] theorem orR_t {r : R} : orR (.ok k (.bl true)) r = .ok .fz (.bl true) := (rfl)
@[simp] theorem andR_b {b c : Bool} : andR (.ok k (.bl b)) (.ok .fz (.bl c)) = .ok .fz (.bl (b && c)) := by cases b <;> rfl
@[simp] theorem orR_b {b c : Bool} : orR (.ok k (.bl b)) (.ok .fz (.bl c)) = .ok .fz (.bl (b || c)) := by cases b <;> rfl
@[simp] theorem notR_b {b : Bool} : notR (.ok k (.bl b)) = .ok .fz (.bl (!b)) := (rfl)
noncomputable def ifE (r : R) (f1 f2 : Ev → R) (ev : Ev) : R := match r with
  | .ok _ (.bl b) => if b then f1 ev else f2 ev
  | .ex C => .ex C
  | _ => .no
@[simp] theorem eIf_eq : eIf c f1 f2 ev = ifE (c ev) f1 f2 ev := by
  show ifR (c ev) (f1 ev) (f2 ev) = ifE (c ev) f1 f2 ev
  generalize c ev = r
  cases r with
  | ok k d => cases d <;> rfl
  | ex C => rfl
  | no => rfl
@[simp] theorem ifE_t : ifE (.ok k (.bl true)) f1 f2 ev = f1 ev := (rfl)
@[simp] theorem ifE_f : ifE (.ok k (.bl false)) f1 f2 ev = f2 ev := (rfl)
@[simp] theorem aNil_eq : aNil ev = .ok [] := (rfl)
@[simp] theorem aCons_eq : aCons f fs ev = consA (f ev) (fs ev) := (rfl)
@[simp] theorem consA_fz {l : List (Kd × D)} : consA (.ok .fz d) (.ok l) = .ok ((.fz, d) :: l) := (rfl)
@[simp] theorem consA_ow {l : List (Kd × D)} : consA (.ok .ow d) (.ok l) = .ok ((.fz, d) :: l) := (rfl)
@[simp] theorem consA_bo {l : List (Kd × D)} : consA (.ok .bo d) (.ok l) = .ok ((.bo, d) :: l) := (rfl)
@[simp] theorem eTup_eq : eTup fs ev = tupR (fs ev) := (rfl)
@[simp] theorem eLst_eq : eLst fs ev = lstR (fs ev) := (rfl)
noncomputable def tupO (o : Option (List D)) : R := match o with
  | some ds => if ds.length ≤ LIM then .ok .fz (.tup ds) else .no
  | none => .no
noncomputable def lstO (o : Option (List D)) : R := match o with
  | some ds => if ds.length ≤ LIM then .ok .ow (.lst ds) else .no
  | none => .no
@[simp] theorem tupR_ok {l : List (Kd × D)} : tupR (.ok l) = tupO (allFz l) := (rfl)
@[simp] theorem lstR_ok {l : List (Kd × D)} : lstR (.ok l) = lstO (allFz l) := (rfl)
@[simp] theorem allFz_nil : allFz [] = some [] := (rfl)
@[simp] theorem allFz_cons {l : List (Kd × D)} : allFz ((.fz, d) :: l) = (allFz l).map (d :: ·) := (rfl)
@[simp] theorem tupO_2 {a b : D} : tupO (some [a, b]) = .ok .fz (.tup [a, b]) := (rfl)
@[simp] theorem tupO_3 {a b c : D} : tupO (some [a, b, c]) = .ok .fz (.tup [a, b, c]) := (rfl)
@[simp] theorem tupO_4 {a b c e : D} : tupO (some [a, b, c, e]) = .ok .fz (.tup [a, b, c, e]) := (rfl)
@[simp] theorem lstO_0 : lstO (some []) = .ok .ow (.lst []) := (rfl)
@[simp] theorem lstO_1 {a : D} : lstO (some [a]) = .ok .ow (.lst [a]) := (rfl)
@[simp] theorem lstO_2 {a b : D} : lstO (some [a, b]) = .ok .ow (.lst [a, b]) := (rfl)
@[simp] theorem lstO_3 {a b c : D} : lstO (some [a, b, c]) = .ok .ow (.lst [a, b, c]) := (rfl)
@[simp] theorem lstO_4 {a b c e : D} : lstO (some [a, b, c, e]) = .ok .ow (.lst [a, b, c, e]) := (rfl)
@[simp] theorem lstO_5 {a0 a1 a2 a3 a4 : D} : lstO (some [a0, a1, a2, a3, a4]) = .ok .ow (.lst [a0, a1, a2, a3, a4]) := (rfl)
@[simp] theorem eCall_eq {g : GN} : eCall g fs ev = callR g (fs ev) := (rfl)
@[simp] theorem callR_ok {g : GN} {l : List (Kd × D)} : callR g (.ok l) = toR (g (l.map (·.2))) := (rfl)
noncomputable def outK (r : R) : R := match r with
  | .ok .fz d => .ok .fz d
  | .ok .ow d => .ok .ow d
  | _ => .no
noncomputable def outS (r : R) : R := match r with
  | .ok .bo _ => .no
  | .ok _ d => if scalD d then .ok .fz d else .no
  | _ => .no
noncomputable def fnO (φ : List D → R) (o : Option (List D)) (l : List (Kd × D)) : R := match o with
  | some ds => outK (φ ds)
  | none => outS (φ (l.map (·.2)))
@[simp] theorem eFn_eq {φ : List D → R} : eFn n φ fs ev = fnR n φ (fs ev) := (rfl)
theorem fnR_ok {φ : List D → R} {l : List (Kd × D)} (h : l.length = n) : fnR n φ (.ok l) = fnO φ (allFz l) l := by
  simp only [fnR, if_pos h]
  unfold fnO outK outS
  cases allFz l <;> rfl
@[simp] theorem fnR_1 {φ : List D → R} {a : Kd × D} : fnR 1 φ (.ok [a]) = fnO φ (allFz [a]) [a] := (fnR_ok rfl)
@[simp] theorem fnR_2 {φ : List D → R} {a b : Kd × D} : fnR 2 φ (.ok [a, b]) = fnO φ (allFz [a, b]) [a, b] := (fnR_ok rfl)
@[simp] theorem fnR_3 {φ : List D → R} {a b c : Kd × D} : fnR 3 φ (.ok [a, b, c]) = fnO φ (allFz [a, b, c]) [a, b, c] := (fnR_ok rfl)
@[simp] theorem fnR_4 {φ : List D → R} {a b c u : Kd × D} : fnR 4 φ (.ok [a, b, c, u]) = fnO φ (allFz [a, b, c, u]) [a, b, c, u] := (fnR_ok rfl)
@[simp] theorem fnO_some {φ : List D → R} {ds : List D} {l : List (Kd × D)} : fnO φ (some ds) l = outK (φ ds) := (rfl)
@[simp] theorem outK_fz : outK (.ok .fz d) = .ok .fz d := (rfl)
@[simp] theorem outK_ow : outK (.ok .ow d) = .ok .ow d := (rfl)
noncomputable def forO (r : RI) (b : B1) (body : Ev → Fl) (ev : Ev) : Fl := match r with
  | .ok ds => forE b body ds ev
  | .ex C => .ex C
  | .no => .no
@[simp] theorem forG_eq {fi : Ev → RI} {b : B1} : forG fi b body ev = forO (fi ev) b body ev := (rfl)
@[simp] theorem forO_ok {ds : List D} {b : B1} : forO (.ok ds) b body ev = forE b body ds ev := (rfl)
@[simp] theorem iLst_eq : iLst f ev = itR (f ev) := (rfl)
@[simp] theorem itR_fz {ds : List D} : itR (.ok .fz (.lst ds)) = .ok ds := (rfl)
@[simp] theorem itR_ow {ds : List D} : itR (.ok .ow (.lst ds)) = .ok ds := (rfl)
@[simp] theorem iRngW_eq : iRngW fs ev = rngW (fs ev) := (rfl)
@[simp] theorem rngW_eq {j : Int} (h : j < 4611686018427387904) : rngW (.ok [(k, .int j)]) = .ok (rangeD 0 j.toNat) := (if_pos h)
noncomputable def compO (b : B1) (c e : Ev → R) (ev : Ev) (r : RI) : R := match r with
  | .ok ds => if ds.length < LIM then (match compE b c e ev ds with
    | some l => .ok .ow (.lst l)
    | none => .no) else .no
  | .ex C => .ex C
  | .no => .no
@[simp] theorem eComp_eq {cap : List (Option Nat)} {fi : Ev → RI} {b : B1} {c e : Ev → R} : eComp cap fi b c e ev = compO b c e (capE cap ev) (fi ev) := by unfold eComp compR compO; rfl
theorem compE_fm {b : B1} {c e : Ev → R} {α : Type} {enc : α → D} {p : α → Bool} {v : α → D} : ∀ {l : List α}, (∀ x ∈ l, ∃ ev1, b (enc x) ev = some ev1 ∧ (∃ k, c ev1 = .ok k (.bl (p x))) ∧ (p x = true → ∃ k, k ≠ Kd.bo ∧ e ev1 = .ok k (v x))) →
    compE b c e ev (l.map enc) = some ((l.filter p).map v)
  | [], _ => rfl
  | x :: l, hl => by
    obtain ⟨ev1, h1, ⟨k, h2⟩, h3⟩ := hl x (by simp)
    have ih := compE_fm (b := b) (c := c) (e := e) (enc := enc) (p := p) (v := v) (l := l) fun y hy => hl y (by simp [hy])
    rw [List.map_cons, compE]
    simp only [h1, h2]
    by_cases hp : p x = true
    · obtain ⟨k', hk, h4⟩ := h3 hp
      rw [if_pos hp, h4, List.filter_cons_of_pos hp, List.map_cons, ih]
      cases k' with
      | bo => exact absurd rfl hk
      | fz => rfl
      | ow => rfl
    · rw [if_neg hp, List.filter_cons_of_neg hp, ih]
theorem compO_fm {b : B1} {c e : Ev → R} {α : Type} {enc : α → D} {l : List α} (p : α → Bool) (v : α → D) (hn : l.length < LIM) (h : ∀ x ∈ l, ∃ ev1, b (enc x) ev = some ev1 ∧ (∃ k, c ev1 = .ok k (.bl (p x))) ∧ (p x = true → ∃ k, k ≠ Kd.bo ∧ e ev1 = .ok k (v x))) :
    compO b c e ev (.ok (l.map enc)) = .ok .ow (.lst ((l.filter p).map v)) := by
  simp only [compO]
  rw [compE_fm h]
  simp [hn]
@[simp] theorem capE_nil : capE [] ev = [] := (rfl)
@[simp] theorem capE_none {cap : List (Option Nat)} : capE (none :: cap) ev = none :: capE cap ev := (rfl)
noncomputable def runO (r : Fl) : R := match r with
  | .rt .bo _ => .no
  | .rt k d => .ok k d
  | .nx _ => .ok .fz .non
  | .ex C => .ex C
  | _ => .no
theorem runF_eq {ds : List D} : runF n g ds = runO (g (ev0 n ds)) := rfl
@[simp] theorem runO_fz : runO (.rt .fz d) = .ok .fz d := (rfl)
@[simp] theorem addD_int {x y : Int} : addD (.int x) (.int y) = some (.fz, .int (x + y)) := (rfl)
@[simp] theorem addD_lst {x y : List D} : addD (.lst x) (.lst y) = if x.length + y.length ≤ LIM then some (.ow, .lst (x ++ y)) else none := (rfl)
@[simp] theorem addD_str {x y : Str} (h : x.length + y.length ≤ 1000000) : addD (.str x) (.str y) = some (.fz, .str (x ++ y)) := (if_pos h)
@[simp] theorem subD_int {x y : Int} : subD (.int x) (.int y) = some (.fz, .int (x - y)) := (rfl)
@[simp] theorem mulD_ok {x y : Int} (h : (-(2 ^ 64) < x ∧ x < 2 ^ 64) ∨ (-(2 ^ 64) < y ∧ y < 2 ^ 64)) : mulD (.int x) (.int y) = some (.fz, .int (x * y)) := by
  have : mulL (.int x) (.int y) = some (.fz, .int (x * y)) := if_pos h
  simp [mulD, this]
@[simp] theorem mulD_str {x : Str} {y : Int} (h : 0 ≤ y ∧ y ≤ 1000 ∧ x.length ≤ 1000) : mulD (.str x) (.int y) = some (.fz, .str (Txt.mul x y)) := by
  have : mulS (.str x) (.int y) = some (.fz, .str (Txt.mul x y)) := if_pos h
  simp [mulD, this, mulL]
@[simp] theorem fdivD_ok {x y : Int} (h : 0 < y ∧ y < 2 ^ 200) : fdivD (.int x) (.int y) = some (.fz, .int (x / y)) := (if_pos h)
@[simp] theorem modD_ok {x y : Int} (h : 0 < y) : modD (.int x) (.int y) = some (.fz, .int (x % y)) := (if_pos h)
@[simp] theorem powD_ok {x y : Int} (h : 0 ≤ y ∧ y ≤ 1000000 ∧ x.natAbs < 2 ^ 64) : powD (.int x) (.int y) = some (.fz, .int (x ^ y.toNat)) := (if_pos h)
@[simp] theorem ltD_int {x y : Int} : ltD (.int x) (.int y) = some (.fz, .bl (decide (x < y))) := (rfl)
@[simp] theorem leD_int {x y : Int} : leD (.int x) (.int y) = some (.fz, .bl (decide (x ≤ y))) := (rfl)
@[simp] theorem gtD_int {x y : Int} : gtD (.int x) (.int y) = some (.fz, .bl (decide (y < x))) := (rfl)
@[simp] theorem isND_nn : isND .non .non = some (.fz, .bl true) := (rfl)
@[simp] theorem isND_int {x : Int} : isND (.int x) .non = some (.fz, .bl false) := (rfl)
@[simp] theorem isND_tup {x : List D} : isND (.tup x) .non = some (.fz, .bl false) := (rfl)
@[simp] theorem notND_nn : notND .non .non = some (.fz, .bl false) := (rfl)
@[simp] theorem notND_int {x : Int} : notND (.int x) .non = some (.fz, .bl true) := (rfl)
@[simp] theorem notND_tup {x : List D} : notND (.tup x) .non = some (.fz, .bl true) := (rfl)
@[simp] theorem idxD_lst {x : List D} {j : Int} : idxD (.lst x) (.int j) = (atI x j).map fun d => (.fz, d) := by
  simp [idxD, getK, lookD, idxL]
@[simp] theorem idxD_scr {x : List D} {j : Int} : idxD (.scr x) (.int j) = (atI x j).map fun d => (.fz, d) := by
  simp [idxD, getK, lookD, idxL]
@[simp] theorem idxD_tup {x : List D} {j : Int} : idxD (.tup x) (.int j) = (atI x j).map fun d => (.fz, d) := by
  simp [idxD, getK, lookD, idxL]
@[simp] theorem eUn_eq {g : G1} : eUn g f ev = un1 g (f ev) := (rfl)
@[simp] theorem un1_ok {g : G1} : un1 g (.ok k d) = toR (g d) := (rfl)
@[simp] theorem negD_int {x : Int} : negD (.int x) = some (.fz, .int (-x)) := (rfl)
@[simp] theorem stepD_m {xs : List D} : stepD (.lst xs) (.int (-1)) = some (.ow, .lst xs.reverse) := (rfl)
@[simp] theorem oS_int {x : Int} : oS (.ok k (.int x)) = .ok (some x) := (rfl)
@[simp] theorem slR_ok {l h : Option Int} : slR (.ok k d) (.ok l) (.ok h) = toR (slD d l h) := (rfl)
@[simp] theorem slD_lst {xs : List D} {l h : Option Int} : slD (.lst xs) l h = some (.ow, .lst (cutG xs l h)) := (rfl)
@[simp] theorem absD_int {x : Int} : absD [.int x] = some (.fz, .int (if x < 0 then -x else x)) := (rfl)
@[simp] theorem lenD_lst {x : List D} : lenD [.lst x] = some (.fz, .int x.length) := (rfl)
@[simp] theorem lenD_scr {x : List D} : lenD [.scr x] = some (.fz, .int x.length) := (rfl)
@[simp] theorem listD_lst {x : List D} : listD [.lst x] = some (.ow, .lst x) := (rfl)
@[simp] theorem min2_eq {x y : Int} : min2D [.int x, .int y] = some (.fz, .int (min x y)) := by
  show some (Kd.fz, D.int (if y < x then y else x)) = _
  congr 3; split <;> omega
end
section
variable {b : B1} {body : Ev → Fl}
theorem forE_by (Q : Fl → Prop) (I : List D → Ev → Prop) (step : ∀ d ds ev, I (d :: ds) ev → ∃ ev1, b d ev = some ev1 ∧ match body ev1 with
      | .nx e => I ds e
      | .ct e => I ds e
      | .bk e => Q (.nx e)
      | r => Q r) (fin : ∀ ev, I [] ev → Q (.nx ev)) : ∀ {ds : List D} {ev : Ev}, I ds ev → Q (forE b body ds ev)
  | [], ev, h => fin ev h
  | d :: ds, ev, h => by
    obtain ⟨ev1, e1, m⟩ := step d ds ev h
    rw [forE, e1]
    dsimp only
    cases q : body ev1 with
    | nx e => rw [q] at m; exact forE_by Q I step fin m
    | ct e => rw [q] at m; exact forE_by Q I step fin m
    | bk e => rw [q] at m; exact m
    | rt k d => rw [q] at m; exact m
    | ex C => rw [q] at m; exact m
    | no => rw [q] at m; exact m
theorem rangeD_eq (lo : Int) (n : Nat) : rangeD lo n = (List.range n).map fun (i : Nat) => D.int (lo + i) := rfl
end
theorem law_sp {K : PySem.W.Frag} {H : Hp} {a : Addr} {ns : List Int} {φ : List D → R} {E : XK} (hS : SqL K H a (ns.map V.int)) (h : φ [.scr (ns.map D.int)] = .ok .fz (.bl true)) : spV0 K φ 1 [.ref a] H (fun v _ => v = .bl true) E := by
  refine ⟨H, [.scr (ns.map D.int)], .refl _, .cons ?_ .nil, rfl, ?_⟩
  · rw [Rep]
    refine ⟨a, _, rfl, hS, ?_⟩
    clear hS h
    induction ns with
    | nil => exact .nil
    | cons x l ih => exact .cons (by rw [Rep]) ih
  · rw [h]
    refine ⟨by simp, fun F' v H' p => p.val.rd.bl⟩
end L3
set_option Elab.async false
set_option linter.all false
set_option maxRecDepth 100000
namespace L3
open PySem L2
mutual
/-- plain: no truths, no script; at most n deep -/
noncomputable def pl : Nat → D → Bool
  | _, .non => true
  | _, .int _ => true
  | _, .str x => PyData.strOk x
  | n + 1, .tup xs => plL n xs
  | n + 1, .lst xs => plL n xs
  | _, _ => false
noncomputable def plL : Nat → List D → Bool
  | _, [] => true
  | n, d :: ds => pl n d && plL n ds
end
theorem plL_iff {n : Nat} : ∀ {l : List D}, plL n l = true ↔ ∀ d ∈ l, pl n d = true
  | [] => by simp [plL]
  | d :: l => by simp [plL, plL_iff (l := l)]
mutual
theorem pl_up : ∀ {n : Nat} {d : D}, pl n d = true → pl (n + 1) d = true
  | _, .non, _ => rfl
  | _, .int _, _ => rfl
  | _, .str _, h => by simp only [pl] at h ⊢; exact h
  | n + 1, .tup xs, h => by simp only [pl] at h ⊢; exact plL_ups h
  | n + 1, .lst xs, h => by simp only [pl] at h ⊢; exact plL_ups h
  | 0, .tup _, h => by simp [pl] at h
  | 0, .lst _, h => by simp [pl] at h
  | _, .bl _, h => by simp [pl] at h
  | _, .dK _ _, h => by simp [pl] at h
  | _, .dT _ _, h => by simp [pl] at h
  | _, .obj _ _ _, h => by simp [pl] at h
  | _, .scr _, h => by simp [pl] at h
  | _, .ty _, h => by simp [pl] at h
theorem plL_ups : ∀ {n : Nat} {l : List D}, plL n l = true → plL (n + 1) l = true
  | _, [], _ => by simp [plL]
  | _, d :: l, h => by
    simp only [plL, Bool.and_eq_true] at h ⊢
    exact ⟨pl_up h.1, plL_ups h.2⟩
end
mutual
theorem py_of : ∀ {n : Nat} {d : D}, pl n d = true → ∃ p, py d = some p ∧ p.depth ≤ n
  | _, .non, _ => ⟨.none, rfl, by simp [PyData.depth]⟩
  | _, .int i, _ => ⟨.int i, rfl, by simp [PyData.depth]⟩
  | _, .str x, h => ⟨.str x, by simp only [pl] at h; simp [py, h], by simp [PyData.depth]⟩
  | n + 1, .tup xs, h => by
    simp only [pl] at h
    obtain ⟨ps, e, hd⟩ := pyL_of h
    exact ⟨.tuple ps, by simp [py, e], by simp only [PyData.depth]; omega⟩
  | n + 1, .lst xs, h => by
    simp only [pl] at h
    obtain ⟨ps, e, hd⟩ := pyL_of h
    exact ⟨.list ps, by simp [py, e], by simp only [PyData.depth]; omega⟩
  | 0, .tup _, h => by simp [pl] at h
  | 0, .lst _, h => by simp [pl] at h
  | _, .bl _, h => by simp [pl] at h
  | _, .dK _ _, h => by simp [pl] at h
  | _, .dT _ _, h => by simp [pl] at h
  | _, .obj _ _ _, h => by simp [pl] at h
  | _, .scr _, h => by simp [pl] at h
  | _, .ty _, h => by simp [pl] at h
theorem pyL_of : ∀ {n : Nat} {l : List D}, plL n l = true → ∃ ps, pyL l = some ps ∧ PyData.depthAll ps ≤ n
  | n, [], _ => ⟨[], rfl, by simp [PyData.depthAll]⟩
  | n, d :: l, h => by
    simp only [plL, Bool.and_eq_true] at h
    obtain ⟨p, e1, h1⟩ := py_of h.1
    obtain ⟨ps, e2, h2⟩ := pyL_of h.2
    exact ⟨p :: ps, by simp [pyL, e1, e2], by simp only [PyData.depthAll]; omega⟩
end
mutual
theorem eqv_pl : ∀ {n m : Nat} {a b : D} {p q : PyData}, pl n a = true → pl m b = true → py a = some p → py b = some q → (p.eqv q = true ↔ a = b)
  | n, m, a, b, p, q, ha, hb, ea, eb => by
    cases a <;> (try (simp [pl] at ha; done)) <;> cases b <;> (try (simp [pl] at hb; done)) <;> (try (cases n <;> simp [pl] at ha)) <;> (try (cases m <;> simp [pl] at hb)) <;> simp only [py, Option.map_eq_some_iff] at ea eb
    all_goals (try rw [if_pos hb] at eb)
    all_goals (try rw [if_pos ha] at ea)
    all_goals (try (cases ea; cases eb; simp [PyData.eqv]; done))
    all_goals (try (obtain ⟨ps, e1, rfl⟩ := ea))
    all_goals (try (obtain ⟨qs, e2, rfl⟩ := eb))
    all_goals (try (cases ea))
    all_goals (try (cases eb))
    all_goals simp only [PyData.eqv]
    all_goals (first | (rw [eqv_plL ha hb e1 e2]; simp; done) | (simp; done))
theorem eqv_plL : ∀ {n m : Nat} {a b : List D} {p q : List PyData}, plL n a = true → plL m b = true → pyL a = some p → pyL b = some q → (PyData.eqvAll p q = true ↔ a = b)
  | n, m, [], [], p, q, _, _, ea, eb => by cases ea; cases eb; simp [PyData.eqvAll]
  | n, m, [], y :: b, p, q, _, hb, ea, eb => by
    cases ea
    simp only [pyL] at eb
    cases e1 : py y with
    | none => rw [e1] at eb; cases eb
    | some u => rw [e1] at eb; cases e2 : pyL b with
      | none => rw [e2] at eb; cases eb
      | some us => rw [e2] at eb; cases eb; simp [PyData.eqvAll]
  | n, m, x :: a, [], p, q, ha, _, ea, eb => by
    cases eb
    simp only [pyL] at ea
    cases e1 : py x with
    | none => rw [e1] at ea; cases ea
    | some u => rw [e1] at ea; cases e2 : pyL a with
      | none => rw [e2] at ea; cases ea
      | some us => rw [e2] at ea; cases ea; simp [PyData.eqvAll]
  | n, m, x :: a, y :: b, p, q, ha, hb, ea, eb => by
    simp only [plL, Bool.and_eq_true] at ha hb
    obtain ⟨p1, e1, _⟩ := py_of ha.1
    obtain ⟨ps, e2, _⟩ := pyL_of ha.2
    obtain ⟨q1, e3, _⟩ := py_of hb.1
    obtain ⟨qs, e4, _⟩ := pyL_of hb.2
    simp only [pyL, e1, e2, Option.bind_some, Option.map_some, Option.some.injEq] at ea
    simp only [pyL, e3, e4, Option.bind_some, Option.map_some, Option.some.injEq] at eb
    subst ea; subst eb
    simp only [PyData.eqvAll, Bool.and_eq_true, eqv_pl ha.1 hb.1 e1 e3, eqv_plL ha.2 hb.2 e2 e4, List.cons.injEq]
end
noncomputable instance instDecD : DecidableEq D := fun a b => Classical.propDecidable (a = b)
theorem eqD_pl {a b : D} (ha : pl 60 a = true) (hb : pl 60 b = true) : eqD a b = some (.fz, .bl (decide (a = b))) := by
  obtain ⟨p, e1, h1⟩ := py_of ha
  obtain ⟨q, e2, _⟩ := py_of hb
  have h1' : p.depth ≤ DEEP := h1
  simp only [eqD, e1, e2, if_pos h1']
  congr 3
  rw [Bool.eq_iff_iff, eqv_pl ha hb e1 e2, decide_eq_true_iff]
theorem neD_pl {a b : D} (ha : pl 60 a = true) (hb : pl 60 b = true) : neD a b = some (.fz, .bl (decide (a ≠ b))) := by
  obtain ⟨p, e1, h1⟩ := py_of ha
  obtain ⟨q, e2, _⟩ := py_of hb
  have h1' : p.depth ≤ DEEP := h1
  simp only [neD, e1, e2, if_pos h1']
  congr 3
  rw [Bool.eq_iff_iff, decide_eq_true_iff, Bool.not_eq_true', ← Bool.not_eq_true, eqv_pl ha hb e1 e2]
theorem any_pl {n m : Nat} {a : D} {p : PyData} (ha : pl n a = true) (ea : py a = some p) : ∀ {l : List D} {qs : List PyData}, plL m l = true → pyL l = some qs → ((qs.any fun q => q.eqv p) = true ↔ a ∈ l)
  | [], _, _, e => by cases e; simp
  | d :: l, qs, h, e => by
    simp only [plL, Bool.and_eq_true] at h
    obtain ⟨q1, e3, _⟩ := py_of h.1
    obtain ⟨qs', e4, _⟩ := pyL_of h.2
    simp only [pyL, e3, e4, Option.bind_some, Option.map_some, Option.some.injEq] at e
    subst e
    rw [List.any_cons, Bool.or_eq_true, eqv_pl h.1 ha e3 ea, any_pl ha ea h.2 e4, List.mem_cons]
    exact or_congr eq_comm Iff.rfl
theorem inD_pl {a b : D} {xs : List D} (hx : itemsD b = some xs) (ha : pl 60 a = true) (hb : plL 60 xs = true) : inD a b = some (.fz, .bl (decide (a ∈ xs))) := by
  obtain ⟨p, e1, h1⟩ := py_of ha
  obtain ⟨qs, e2, _⟩ := pyL_of hb
  have h1' : p.depth ≤ DEEP := h1
  have : inL a b = some (.fz, .bl (decide (a ∈ xs))) := by
    simp only [inL, e1, hx, Option.bind_some, e2, if_pos h1']
    congr 3
    rw [Bool.eq_iff_iff, any_pl ha e1 hb e2, decide_eq_true_iff]
  simp [inD, this]
theorem notInD_pl {a b : D} {xs : List D} (hx : itemsD b = some xs) (ha : pl 60 a = true) (hb : plL 60 xs = true) : notInD a b = some (.fz, .bl (decide (a ∉ xs))) := by
  obtain ⟨p, e1, h1⟩ := py_of ha
  obtain ⟨qs, e2, _⟩ := pyL_of hb
  have h1' : p.depth ≤ DEEP := h1
  have : notInL a b = some (.fz, .bl (decide (a ∉ xs))) := by
    simp only [notInL, e1, hx, Option.bind_some, e2, if_pos h1']
    congr 3
    rw [Bool.eq_iff_iff, decide_eq_true_iff, Bool.not_eq_true', ← Bool.not_eq_true, any_pl ha e1 hb e2]
  simp [notInD, this]
@[simp] theorem eqD_int {x y : Int} : eqD (.int x) (.int y) = some (.fz, .bl (decide (x = y))) := by
  rw [eqD_pl (by simp [pl]) (by simp [pl])]
  congr 3
  rw [Bool.eq_iff_iff, decide_eq_true_iff, decide_eq_true_iff]; simp
theorem atI_of {xs : List D} {i : Nat} {d : D} (h : xs[i]? = some d) : atI xs (i : Int) = some d := atI_nat h
@[simp] theorem atI_0 {d : D} {l : List D} : atI (d :: l) 0 = some d := atI_nat (j := 0) rfl
@[simp] theorem atI_1 {a d : D} {l : List D} : atI (a :: d :: l) 1 = some d := atI_nat (j := 1) rfl
@[simp] theorem atI_2 {a b d : D} {l : List D} : atI (a :: b :: d :: l) 2 = some d := atI_nat (j := 2) rfl
@[simp] theorem atI_3 {a b c d : D} {l : List D} : atI (a :: b :: c :: d :: l) 3 = some d := atI_nat (j := 3) rfl
end L3
set_option Elab.async false
set_option linter.all false
set_option maxRecDepth 100000
namespace L3
open PySem L2
noncomputable def Wp (r : Fl) (Q : Fl → Prop) : Prop := Q r
section
variable {r : Fl} {Q : Fl → Prop} {ev e : Ev} {g h h' : Ev → Fl} {k : Kd} {d : D} {C : Addr} {b : B1} {body : Ev → Fl} {ds : List D}
@[simp] theorem bind_assoc : bindFl (bindFl r h) h' = bindFl r (seqG h h') := by cases r <;> rfl
@[simp] theorem bind_end : bindFl r .nx = r := by cases r <;> rfl
noncomputable def loopQ (I : Ev → Prop) (h : Ev → Fl) (Q : Fl → Prop) : Fl → Prop
  | .nx e => I e
  | .ct e => I e
  | .bk e => Wp (h e) Q
  | r => Q r
@[simp] theorem loop_nx {I : Ev → Prop} : Wp (.nx e) (loopQ I h Q) = I e := (rfl)
@[simp] theorem loop_ct {I : Ev → Prop} : Wp (.ct e) (loopQ I h Q) = I e := (rfl)
@[simp] theorem loop_rt {I : Ev → Prop} : Wp (.rt k d) (loopQ I h Q) = Wp (.rt k d) Q := (rfl)
theorem wp_for (I : List D → Ev → Prop) (step : ∀ d ds ev, I (d :: ds) ev → ∃ ev1, b d ev = some ev1 ∧ Wp (body ev1) (loopQ (I ds) h Q)) (fin : ∀ ev, I [] ev → Wp (h ev) Q) (h0 : I ds ev) : Wp (bindFl (forE b body ds ev) h) Q := by
  refine forE_by (fun r => Wp (bindFl r h) Q) I (fun d ds ev hi => ?_) (fun ev hi => fin ev hi) h0
  obtain ⟨ev1, e1, m⟩ := step d ds ev hi
  refine ⟨ev1, e1, ?_⟩
  cases q : body ev1 <;> rw [q] at m <;> exact m
theorem wp_forM {β : Type} {enc : β → D} {l : List β} (I : List β → Ev → Prop) (step : ∀ x xs ev, (∃ pre, l = pre ++ x :: xs) → I (x :: xs) ev → ∃ ev1, b (enc x) ev = some ev1 ∧ Wp (body ev1) (loopQ (I xs) h Q)) (fin : ∀ ev, I [] ev → Wp (h ev) Q) (h0 : I l ev) : Wp (bindFl (forE b body (l.map enc) ev) h) Q := by
  refine wp_for (fun ds ev => ∃ xs, ds = xs.map enc ∧ (∃ pre, l = pre ++ xs) ∧ I xs ev) ?_ ?_ ⟨l, rfl, ⟨[], rfl⟩, h0⟩
  · rintro d ds ev ⟨xs, e, ⟨pre, hp⟩, hi⟩
    cases xs with
    | nil => simp at e
    | cons x xs =>
      simp at e
      obtain ⟨rfl, rfl⟩ := e
      obtain ⟨ev1, e1, w⟩ := step x xs ev ⟨pre, hp⟩ hi
      refine ⟨ev1, e1, ?_⟩
      revert w
      cases body ev1 with
      | nx e => exact fun w => ⟨xs, rfl, ⟨pre ++ [x], by simp [hp]⟩, w⟩
      | ct e => exact fun w => ⟨xs, rfl, ⟨pre ++ [x], by simp [hp]⟩, w⟩
      | _ => exact id
  · rintro ev ⟨xs, e, _, hi⟩
    cases xs with
    | nil => exact fin ev hi
    | cons x xs => simp at e
theorem wp_forM1 {β : Type} {enc : β → D} {l : List β} (I : List β → Ev → Prop) (step : ∀ x xs ev, (∃ pre, l = pre ++ x :: xs) → I (x :: xs) ev → ∃ ev1, b (enc x) ev = some ev1 ∧ Wp (body ev1) (loopQ (I xs) .nx Q)) (fin : ∀ ev, I [] ev → Wp (.nx ev) Q) (h0 : I l ev) : Wp (forE b body (l.map enc) ev) Q := by
  have := wp_forM (b := b) (body := body) (enc := enc) (l := l) (ev := ev) (h := .nx) (Q := Q) I step fin h0
  rwa [bind_end] at this
theorem wp_if {t : Bool} (h1 : t = true → Wp (bindFl (g ev) h') Q) (h2 : t = false → Wp (bindFl (h ev) h') Q) : Wp (bindFl (ifFl (.ok k (.bl t)) g h ev) h') Q := by
  cases t with
  | true => exact h1 rfl
  | false => exact h2 rfl
theorem wp_if1 {t : Bool} (h1 : t = true → Wp (g ev) Q) (h2 : t = false → Wp (h ev) Q) : Wp (ifFl (.ok k (.bl t)) g h ev) Q := by
  cases t with
  | true => exact h1 rfl
  | false => exact h2 rfl
noncomputable def runQ (P : R → Prop) (r : Fl) : Prop := P (runO r)
@[simp] theorem run_fz {P : R → Prop} : Wp (.rt .fz d) (runQ P) = P (.ok .fz d) := (rfl)
@[simp] theorem run_ow {P : R → Prop} : Wp (.rt .ow d) (runQ P) = P (.ok .ow d) := (rfl)
@[elab_as_elim] theorem run_el {motive : R → Prop} (r : R) {n : Nat} (e : r = runF n g ds) (w : Wp (g (ev0 n ds)) (runQ motive)) : motive r := e ▸ w
end
theorem compO_map {b : B1} {e : Ev → R} {ev : Ev} {α : Type} {enc : α → D} {l : List α} (v : α → D) (hn : l.length < LIM) (h : ∀ x ∈ l, ∃ ev1, b (enc x) ev = some ev1 ∧ ∃ k, k ≠ Kd.bo ∧ e ev1 = .ok k (v x)) :
    compO b (conR (.bl true)) e ev (.ok (l.map enc)) = .ok .ow (.lst (l.map v)) := by
  have := compO_fm (b := b) (c := conR (.bl true)) (e := e) (ev := ev) (enc := enc) (l := l) (fun _ => true) v hn fun x hx => by
    obtain ⟨ev1, h1, h2⟩ := h x hx
    exact ⟨ev1, h1, ⟨.fz, rfl⟩, fun _ => h2⟩
  rwa [List.filter_eq_self.2 (by simp)] at this
end L3
namespace L3
open PySem L2
section
variable {κ : Type} [DecidableEq κ]
end
end L3
set_option Elab.async false
set_option linter.all false
set_option maxRecDepth 100000
namespace L3
open PySem L2 TSrt
@[simp] theorem isBD_bl {a b : Bool} : isBD (.bl a) (.bl b) = some (.fz, .bl (a == b)) := (rfl)
end L3
set_option Elab.async false
set_option linter.all false
set_option maxRecDepth 100000
namespace L3
open PySem L2
section
variable {ev : Ev} {f f1 f2 : Ev → R} {i j n : Nat} {d : D} {l : List D} {k : Kd} {C : Addr}
end
end L3
set_option Elab.async false
set_option linter.all false
set_option maxRecDepth 100000
namespace L3
open PySem L2
section
variable {ev e : Ev} {f f1 f2 c : Ev → R} {fs ks : Ev → RA} {g h body : Ev → Fl} {k k1 k2 : Kd} {d d1 d2 : D} {C : Addr} {i n m : Nat}
@[simp] theorem eFld_eq {cs : List Str} {x : Str} : eFld cs x f ev = fldR cs x (f ev) := (rfl)
@[simp] theorem eMeth_eq {x : Str} {tab : MTab} : eMeth x n tab f fs ev = methR x n tab (f ev) (fs ev) := (rfl)
@[simp] theorem eMake_eq {x : Str} {ns : List Str} {is : List (Ev → R)} {dv : List D} : eMake x ns is n dv fs ev = makeR x ns is n dv (fs ev) := (rfl)
noncomputable def makeO (x : Str) (ns : List Str) (o : Option (List D)) : R := match o with
  | some ds' => .ok .fz (.obj x ns ds')
  | none => .no
@[simp] theorem makeO_some {x : Str} {ns : List Str} {ds : List D} : makeO x ns (some ds) = .ok .fz (.obj x ns ds) := (rfl)
theorem makeR_ok {x : Str} {ns : List Str} {is : List (Ev → R)} {dv : List D} {l : List (Kd × D)} {ds : List D} (h : allFz l = some ds) (hn : ds.length + dv.length + 1 = n) : makeR x ns is n dv (.ok l) = makeO x ns (initR is (ds ++ dv)) := by
  simp only [makeR, h, if_pos hn]; rfl
@[simp] theorem makeR_2 {x : Str} {ns : List Str} {is : List (Ev → R)} {a b : D} : makeR x ns is 3 [] (.ok [(.fz, a), (.fz, b)]) = makeO x ns (initR is [a, b]) := makeR_ok (ds := [a, b]) (dv := []) rfl rfl
@[simp] theorem makeR_2d {x : Str} {ns : List Str} {is : List (Ev → R)} {a b : D} : makeR x ns is 3 [b] (.ok [(.fz, a)]) = makeO x ns (initR is [a, b]) := makeR_ok (ds := [a]) (dv := [b]) rfl rfl
@[simp] theorem makeR_3 {x : Str} {ns : List Str} {is : List (Ev → R)} {a b c : D} : makeR x ns is 4 [] (.ok [(.fz, a), (.fz, b), (.fz, c)]) = makeO x ns (initR is [a, b, c]) := makeR_ok (ds := [a, b, c]) (dv := []) rfl rfl
noncomputable def makeK (x : Str) (ns : List Str) (is : List (Ev → R)) (n m : Nat) (as ks : RA) : R := match ks with
  | .ok l => if l.length = m then makeR x ns is n [] (appA as (.ok l)) else .no
  | r => makeR x ns is n [] (appA as r)
@[simp] theorem eMakeK_eq {x : Str} {ns : List Str} {is : List (Ev → R)} : eMakeK x ns is n m fs ks ev = makeK x ns is n m (fs ev) (ks ev) := by
  unfold eMakeK makeK; cases ks ev <;> rfl
@[simp] theorem makeK_11 {x : Str} {ns : List Str} {is : List (Ev → R)} {a b : D} : makeK x ns is 3 1 (.ok [(.fz, a)]) (.ok [(.fz, b)]) = makeO x ns (initR is [a, b]) := makeR_ok (l := [(.fz, a), (.fz, b)]) (ds := [a, b]) (dv := []) rfl rfl
@[simp] theorem initR_eq {is : List (Ev → R)} {ds : List D} : initR is ds = fieldsR (none :: ds.map fun d => some (.fz, d)) is := (rfl)
@[simp] theorem fieldsR_nil : fieldsR ev [] = some [] := (rfl)
noncomputable def fieldO (r : R) (o : Option (List D)) : Option (List D) := match r with
  | .ok .bo _ => none
  | .ok _ d => o.map (d :: ·)
  | _ => none
@[simp] theorem fieldsR_cons {is : List (Ev → R)} : fieldsR ev (f :: is) = fieldO (f ev) (fieldsR ev is) := by
  conv => lhs; unfold fieldsR
  unfold fieldO
  cases f ev with
  | ok k d => cases k <;> rfl
  | ex C => rfl
  | no => rfl
@[simp] theorem fieldO_fz {o : Option (List D)} : fieldO (.ok .fz d) o = o.map (d :: ·) := (rfl)
@[simp] theorem fieldO_ow {o : Option (List D)} : fieldO (.ok .ow d) o = o.map (d :: ·) := (rfl)
@[simp] theorem eNew_eq {x : Str} : eNew x ev = .ok .fz (.obj x [] []) := (rfl)
@[simp] theorem eIsC_eq {tab : List (Str × Bool)} : eIsC tab f ev = isCD tab (f ev) := (rfl)
theorem isC_ok {tab : List (Str × Bool)} {x : Str} {ns : List Str} {xs : List D} {b : Bool} (h : tab.lookup x = some b) : isCD tab (.ok k (.obj x ns xs)) = .ok .fz (.bl b) := by simp only [isCD, h]
theorem fld_ok {cs : List Str} {y x : Str} {ns : List Str} {xs : List D} (h : x ∈ cs) (e : (ns.zip xs).lookup y = some d) : fldR cs y (.ok k (.obj x ns xs)) = .ok .fz d := by simp only [fldR, if_pos h, e]
theorem meth_ok {x y : Str} {tab : MTab} {ns : List Str} {xs : List D} {l : List (Kd × D)} {φ : List D → R} (h : y ∉ ns) (e : tab.lookup x = some φ) : methR y n tab (.ok .fz (.obj x ns xs)) (.ok l) = fnR n φ (.ok ((.fz, .obj x ns xs) :: l)) := by
  simp only [methR, if_neg h, e]; rfl
@[simp] theorem eSlX_eq : eSlX f1 f2 ev = if isStrR (f1 ev) = true then slSR (f1 ev) (f2 ev) else slR (f1 ev) (oS (f2 ev)) (.ok none) := (rfl)
@[simp] theorem iLT_eq : iLT f ev = if isTupR (f ev) = true then itT (f ev) else itR (f ev) := (rfl)
@[simp] theorem isTup_lst {l : List D} : isTupR (.ok k (.lst l)) = false := (rfl)
@[simp] theorem isStr_lst {l : List D} : isStrR (.ok k (.lst l)) = false := (rfl)
end
example {a b : D} {k : Kd} : fldR ["Came"] "name" (.ok k (.obj "Came" ["name", "by"] [a, b])) = .ok .fz a := fld_ok (by simp) (by rfl)
example {a b : D} {k : Kd} : fldR ["Came"] "by" (.ok k (.obj "Came" ["name", "by"] [a, b])) = .ok .fz b := fld_ok (by decide) (by rfl)
end L3
set_option linter.all false
namespace Net
noncomputable abbrev Stp := Nat × Nat × Int
noncomputable abbrev B := List (Option (Int × List Nat))
noncomputable def at_ (b : B) (v : Nat) : Option (Int × List Nat) := (b[v]?).join
noncomputable def val (b : B) (v : Nat) : Option Int := (at_ b v).map (·.1)
noncomputable def start (n h : Nat) : B := (List.replicate n none).set h (some (0, [h]))
inductive W (steps : List Stp) (h : Nat) : List Nat → Int → Prop
  | one : W steps h [h] 0
  | more {s g : Nat} {p : List Nat} {t c : Int} : W steps h (s :: p) t → (s, g, c) ∈ steps → W steps h (g :: s :: p) (t + c)

section
variable {n h : Nat} {steps : List Stp} {b : B}
theorem val_some {v : Nat} {t : Int} (e : val b v = some t) : ∃ w, at_ b v = some (t, w) := by
  unfold val at e
  cases q : at_ b v with
  | none => rw [q] at e; cases e
  | some z => obtain ⟨t', w⟩ := z; rw [q] at e; simp at e; subst e; exact ⟨w, rfl⟩
end
end Net
set_option Elab.async false
set_option linter.all false
set_option maxRecDepth 100000
set_option maxHeartbeats 4000000
namespace My
open PySem L2 L3
noncomputable def top (i : Nat) : Stmt := PySem.Challenge.pw_hearsay_k31_came_both_either.main.body.getD i (.Pass ⟨0, 0, 0, 0⟩)
noncomputable abbrev s_L_cell_at : Stmt := top 22
noncomputable abbrev N_L_cell_at : List Str := ["_law_script", "_law_k"]
noncomputable abbrev ps_L_cell_at : List Str := ["_law_script", "_law_k"]
noncomputable def g_L_cell_at : Ev → Fl := (seqG (ifG (eOp ltD (varR 1) (eCall lenD (aCons (varR 0) aNil))) (retG (eOp idxD (varR 0) (varR 1))) (.nx))
    (retG (conR (.int 0))))
noncomputable def φ_L_cell_at : List D → R := runF 0 g_L_cell_at
noncomputable abbrev s_L_mix : Stmt := top 23
noncomputable abbrev N_L_mix : List Str := ["_law_cell", "_law_k", "_law_number"]
noncomputable abbrev ps_L_mix : List Str := ["_law_cell", "_law_k"]
noncomputable def g_L_mix : Ev → Fl := (seqG (setG 2 (eOp modD (eOp mulD (eOp addD (eOp addD (eOp modD (varR 0) (conR (.int 1000003))) (eOp mulD (eOp mulD (varR 1) (varR 1)) (conR (.int 7919)))) (varR 1)) (conR (.int 48271))) (conR (.int 2147483629))))
    (retG (eOp fdivD (eOp modD (eOp mulD (varR 2) (varR 2)) (conR (.int 2147483587))) (conR (.int 7)))))
noncomputable def φ_L_mix : List D → R := runF 1 g_L_mix
noncomputable abbrev s_L_net : Stmt := top 24
noncomputable abbrev N_L_net : List Str := ["_law_script", "_law_number", "_law_houses", "_law_paths", "_law_start", "_law_goal", "_law_drawn", "_law_far", "_law_most"]
noncomputable abbrev ps_L_net : List Str := ["_law_script"]
noncomputable def g_L_net_j1 : Ev → Fl := (seqG (setG 8 (eOp idxD (eLst (aCons (conR .non) (aCons (conR (.int 1)) (aCons (conR (.int 2)) (aCons (eOp addD (conR (.int 1)) (eOp modD (eOp fdivD (varR 6) (conR (.int 6))) (conR (.int 6)))) (aCons (eOp addD (eOp powD (conR (.int 10)) (conR (.int 50))) (varR 6)) aNil)))))) (eOp subD (eOp modD (varR 6) (conR (.int 6))) (conR (.int 1)))))
    (appG 3 (eTup (aCons (varR 4) (aCons (varR 5) (aCons (varR 8) aNil))))))
noncomputable def g_L_net_b1 : Ev → Fl := (seqG (setG 6 (eFn 2 φ_L_mix (aCons (eFn 2 φ_L_cell_at (aCons (varR 0) (aCons (conR (.int 1)) aNil))) (aCons (eOp addD (eOp mulD (conR (.int 10)) (varR 4)) (varR 5)) aNil))))
    (seqG (setG 7 (eAnd (eOp gtD (eCall absD (aCons (eOp subD (varR 5) (varR 4)) aNil)) (conR (.int 1))) (eOr (eOp eqD (eOp modD (varR 1) (conR (.int 4))) (conR (.int 1))) (eOp gtD (varR 2) (conR (.int 4))))))
    (seqG (ifG (eOr (eOp eqD (varR 4) (varR 5)) (eOr (varR 7) (eOp eqD (eOp modD (varR 6) (conR (.int 6))) (conR (.int 0))))) (.ct) (.nx))
    g_L_net_j1)))
noncomputable def g_L_net_b2 : Ev → Fl := (forG (iRngW (aCons (varR 2) aNil)) (bName 5) g_L_net_b1)
noncomputable def g_L_net_j2 : Ev → Fl := (frzG 3 (frzG 2 (retG (eTup (aCons (varR 2) (aCons (varR 3) aNil))))))
noncomputable def g_L_net_j3 : Ev → Fl := (seqG (ifG (eOp eqD (eOp modD (eOp fdivD (varR 1) (conR (.int 4))) (conR (.int 2))) (conR (.int 1))) (setG 3 (eOp stepD (varR 3) (eUn negD (conR (.int 1))))) (.nx))
    g_L_net_j2)
noncomputable def g_L_net_j4 : Ev → Fl := (seqG (setG 3 (eLst aNil))
    (seqG (forG (iRngW (aCons (varR 2) aNil)) (bName 4) g_L_net_b2)
    g_L_net_j3))
noncomputable def g_L_net_j5 : Ev → Fl := (seqG (ifG (eOp eqD (eOp modD (eOp fdivD (varR 1) (conR (.int 8))) (conR (.int 8))) (conR (.int 2))) (setG 2 (conR (.int 2))) (.nx))
    g_L_net_j4)
noncomputable def g_L_net : Ev → Fl := (seqG (setG 1 (eFn 2 φ_L_mix (aCons (eFn 2 φ_L_cell_at (aCons (varR 0) (aCons (conR (.int 0)) aNil))) (aCons (conR (.int 1)) aNil))))
    (seqG (setG 2 (eOp addD (conR (.int 1)) (eOp modD (eFn 2 φ_L_cell_at (aCons (varR 0) (aCons (conR (.int 0)) aNil))) (conR (.int 4)))))
    (seqG (ifG (eOp eqD (eOp modD (eOp fdivD (varR 1) (conR (.int 8))) (conR (.int 8))) (conR (.int 1))) (setG 2 (eOp addD (conR (.int 5)) (eOp modD (eOp fdivD (varR 1) (conR (.int 64))) (conR (.int 4))))) (.nx))
    g_L_net_j5)))
noncomputable def φ_L_net : List D → R := runF 8 g_L_net
noncomputable abbrev s_M_Both_init : Stmt := inClass (top 14) 0
noncomputable abbrev ps_M_Both_init : List Str := ["self", "one", "other"]
noncomputable abbrev fs_Both : List (Ev → R) := [(varR 1), (varR 2)]
noncomputable abbrev s_M_Came_init : Stmt := inClass (top 13) 0
noncomputable abbrev ps_M_Came_init : List Str := ["self", "name", "by"]
noncomputable abbrev fs_Came : List (Ev → R) := [(varR 1), (varR 2)]
noncomputable abbrev s_M_Either_init : Stmt := inClass (top 15) 0
noncomputable abbrev ps_M_Either_init : List Str := ["self", "one", "other"]
noncomputable abbrev fs_Either : List (Ev → R) := [(varR 1), (varR 2)]
noncomputable abbrev s_L_object : Stmt := top 28
noncomputable abbrev N_L_object : List Str := ["_law_tree_here"]
noncomputable abbrev ps_L_object : List Str := ["_law_tree_here"]
noncomputable def g_L_object_j1 (r : List D → R) : Ev → Fl := (retG (eMake "Either" ["one", "other"] fs_Either 3 [] (aCons (eFn 1 r (aCons (eOp idxD (varR 0) (conR (.int 1))) aNil)) (aCons (eFn 1 r (aCons (eOp idxD (varR 0) (conR (.int 2))) aNil)) aNil))))
noncomputable def g_L_object_j2 (r : List D → R) : Ev → Fl := (seqG (ifG (eOp eqD (eOp idxD (varR 0) (conR (.int 0))) (conR (.str (Str.ofString "both")))) (retG (eMake "Both" ["one", "other"] fs_Both 3 [] (aCons (eFn 1 r (aCons (eOp idxD (varR 0) (conR (.int 1))) aNil)) (aCons (eFn 1 r (aCons (eOp idxD (varR 0) (conR (.int 2))) aNil)) aNil)))) (.nx))
    (g_L_object_j1 r))
noncomputable def g_L_object_j3 (r : List D → R) : Ev → Fl := (seqG (ifG (eOp eqD (eOp idxD (varR 0) (conR (.int 0))) (conR (.str (Str.ofString "came")))) (retG (eMake "Came" ["name", "by"] fs_Came 3 [] (aCons (eOp idxD (varR 0) (conR (.int 1))) (aCons (eOp idxD (varR 0) (conR (.int 2))) aNil)))) (.nx))
    (g_L_object_j2 r))
noncomputable def g_L_object_j4 (r : List D → R) : Ev → Fl := (seqG (ifG (eAnd (eOp eqD (eOp idxD (varR 0) (conR (.int 0))) (conR (.str (Str.ofString "came")))) (eAnd (eOp notND (eOp idxD (varR 0) (conR (.int 2))) (conR .non)) (eOp gtD (eOp idxD (varR 0) (conR (.int 2))) (conR (.int 0))))) (retG (eMakeK "Came" ["name", "by"] fs_Came 3 1 (aCons (eOp idxD (varR 0) (conR (.int 1))) aNil) (aCons (eOp idxD (varR 0) (conR (.int 2))) aNil))) (.nx))
    (g_L_object_j3 r))
noncomputable def g_L_object (r : List D → R) : Ev → Fl := (seqG (ifG (eAnd (eOp eqD (eOp idxD (varR 0) (conR (.int 0))) (conR (.str (Str.ofString "came")))) (eOp eqD (eOp idxD (varR 0) (conR (.int 2))) (conR (.str (Str.ofString "left out"))))) (retG (eMake "Came" ["name", "by"] fs_Came 3 [.non] (aCons (eOp idxD (varR 0) (conR (.int 1))) aNil))) (.nx))
    (g_L_object_j4 r))
noncomputable def φ_L_object : Nat → List D → R
  | 0 => fun _ => .no
  | n + 1 => runF 0 (g_L_object (φ_L_object n))
noncomputable abbrev s_L_due : Stmt := top 29
noncomputable abbrev N_L_due : List Str := ["_law_tree_here", "_law_tale_here", "_law_house", "_law_turn", "_law_name", "_law_one", "_law_other"]
noncomputable abbrev ps_L_due : List Str := ["_law_tree_here", "_law_tale_here"]
noncomputable def g_L_due_b1 (r : List D → R) : Ev → Fl := (ifG (eAnd (eOp eqD (varR 4) (eOp idxD (varR 0) (conR (.int 1)))) (eOr (eOp inD (eOp idxD (varR 0) (conR (.int 2))) (eLst (aCons (conR .non) (aCons (conR (.str (Str.ofString "left out"))) aNil)))) (eOp leD (varR 3) (eOp idxD (varR 0) (conR (.int 2)))))) (retG (conR .non)) (.nx))
noncomputable def g_L_due_j1 (r : List D → R) : Ev → Fl := (retG (eTup (aCons (conR (.str (Str.ofString "no"))) (aCons (eOp idxD (varR 0) (conR (.int 1))) aNil))))
noncomputable def g_L_due_j2 (r : List D → R) : Ev → Fl := (seqG (ifG (eAnd (eOp eqD (eOp idxD (varR 0) (conR (.int 0))) (conR (.str (Str.ofString "both")))) (eOp notND (varR 6) (conR .non))) (frzG 6 (retG (eTup (aCons (conR (.str (Str.ofString "second"))) (aCons (varR 6) aNil))))) (.nx))
    (retG (conR .non)))
noncomputable def g_L_due_j3 (r : List D → R) : Ev → Fl := (seqG (ifG (eAnd (eOp eqD (eOp idxD (varR 0) (conR (.int 0))) (conR (.str (Str.ofString "both")))) (eOp notND (varR 5) (conR .non))) (frzG 5 (retG (eTup (aCons (conR (.str (Str.ofString "first"))) (aCons (varR 5) aNil))))) (.nx))
    (g_L_due_j2 r))
noncomputable def g_L_due_j4 (r : List D → R) : Ev → Fl := (seqG (setG 5 (eFn 2 r (aCons (eOp idxD (varR 0) (conR (.int 1))) (aCons (varR 1) aNil))))
    (seqG (setG 6 (eFn 2 r (aCons (eOp idxD (varR 0) (conR (.int 2))) (aCons (varR 1) aNil))))
    (seqG (ifG (eAnd (eOp eqD (eOp idxD (varR 0) (conR (.int 0))) (conR (.str (Str.ofString "either")))) (eAnd (eOp notND (varR 5) (conR .non)) (eOp notND (varR 6) (conR .non)))) (frzG 6 (frzG 5 (retG (eTup (aCons (conR (.str (Str.ofString "neither"))) (aCons (varR 5) (aCons (varR 6) aNil))))))) (.nx))
    (g_L_due_j3 r))))
noncomputable def g_L_due (r : List D → R) : Ev → Fl := (seqG (ifG (eOp eqD (eOp idxD (varR 0) (conR (.int 0))) (conR (.str (Str.ofString "came")))) (seqG (forG (iLst (eOp idxD (varR 1) (conR (.int 2)))) (bTup 3 (bCons (bName 2) (bCons (bName 3) (bCons (bName 4) bNil)))) (g_L_due_b1 r))
    (g_L_due_j1 r)) (.nx))
    (g_L_due_j4 r))
noncomputable def φ_L_due : Nat → List D → R
  | 0 => fun _ => .no
  | n + 1 => runF 5 (g_L_due (φ_L_due n))
noncomputable abbrev s_M_Sentence_doubt : Stmt := inClass (top 12) 1
noncomputable abbrev N_M_Sentence_doubt : List Str := ["self", "net", "tale"]
noncomputable abbrev ps_M_Sentence_doubt : List Str := ["self", "net", "tale"]
noncomputable def g_M_Sentence_doubt (t : MTab) : Ev → Fl := (retG (eTup (aCons (conR (.str (Str.ofString "no"))) (aCons (conR (.str (Str.ofString ""))) aNil))))
noncomputable abbrev s_M_Came_doubt : Stmt := inClass (top 13) 1
noncomputable abbrev N_M_Came_doubt : List Str := ["self", "net", "tale", "house", "turn", "name"]
noncomputable abbrev ps_M_Came_doubt : List Str := ["self", "net", "tale"]
noncomputable def g_M_Came_doubt_b1 (t : MTab) : Ev → Fl := (ifG (eAnd (eOp eqD (varR 5) (eFld ["Came"] "name" (varR 0))) (eOr (eOp isND (eFld ["Came"] "by" (varR 0)) (conR .non)) (eOp leD (varR 4) (eFld ["Came"] "by" (varR 0))))) (retG (conR .non)) (.nx))
noncomputable def g_M_Came_doubt_j1 (t : MTab) : Ev → Fl := (retG (eTup (aCons (conR (.str (Str.ofString "no"))) (aCons (eFld ["Came"] "name" (varR 0)) aNil))))
noncomputable def g_M_Came_doubt (t : MTab) : Ev → Fl := (seqG (forG (iLst (eOp idxD (varR 2) (conR (.int 2)))) (bTup 3 (bCons (bName 3) (bCons (bName 4) (bCons (bName 5) bNil)))) (g_M_Came_doubt_b1 t))
    (g_M_Came_doubt_j1 t))
noncomputable abbrev s_M_Both_doubt : Stmt := inClass (top 14) 1
noncomputable abbrev N_M_Both_doubt : List Str := ["self", "net", "tale", "first", "second"]
noncomputable abbrev ps_M_Both_doubt : List Str := ["self", "net", "tale"]
noncomputable def g_M_Both_doubt_j1 (t : MTab) : Ev → Fl := (seqG (setG 4 (eMeth "doubt" 3 t (eFld ["Both"] "other" (varR 0)) (aCons (varR 1) (aCons (varR 2) aNil))))
    (frzG 4 (retG (eIf (eOp isND (varR 4) (conR .non)) (conR .non) (eTup (aCons (conR (.str (Str.ofString "second"))) (aCons (varR 4) aNil)))))))
noncomputable def g_M_Both_doubt (t : MTab) : Ev → Fl := (seqG (setG 3 (eMeth "doubt" 3 t (eFld ["Both"] "one" (varR 0)) (aCons (varR 1) (aCons (varR 2) aNil))))
    (seqG (ifG (eOp notND (varR 3) (conR .non)) (frzG 3 (retG (eTup (aCons (conR (.str (Str.ofString "first"))) (aCons (varR 3) aNil))))) (.nx))
    (g_M_Both_doubt_j1 t)))
noncomputable abbrev s_M_Either_doubt : Stmt := inClass (top 15) 1
noncomputable abbrev N_M_Either_doubt : List Str := ["self", "net", "tale", "first", "second"]
noncomputable abbrev ps_M_Either_doubt : List Str := ["self", "net", "tale"]
noncomputable def g_M_Either_doubt_j1 (t : MTab) : Ev → Fl := (seqG (setG 4 (eMeth "doubt" 3 t (eFld ["Either"] "other" (varR 0)) (aCons (varR 1) (aCons (varR 2) aNil))))
    (frzG 4 (frzG 3 (retG (eIf (eOp isND (varR 4) (conR .non)) (conR .non) (eTup (aCons (conR (.str (Str.ofString "neither"))) (aCons (varR 3) (aCons (varR 4) aNil)))))))))
noncomputable def g_M_Either_doubt (t : MTab) : Ev → Fl := (seqG (setG 3 (eMeth "doubt" 3 t (eFld ["Either"] "one" (varR 0)) (aCons (varR 1) (aCons (varR 2) aNil))))
    (seqG (ifG (eOp isND (varR 3) (conR .non)) (retG (conR .non)) (.nx))
    (g_M_Either_doubt_j1 t)))
noncomputable def tab_doubt : Nat → MTab
  | 0 => []
  | n + 1 => [("Sentence", runF 0 (g_M_Sentence_doubt (tab_doubt n))), ("Came", runF 3 (g_M_Came_doubt (tab_doubt n))), ("Both", runF 2 (g_M_Both_doubt (tab_doubt n))), ("Either", runF 2 (g_M_Either_doubt (tab_doubt n)))]
noncomputable abbrev s_M_Sentence_holds : Stmt := inClass (top 12) 0
noncomputable abbrev N_M_Sentence_holds : List Str := ["self", "net", "tale"]
noncomputable abbrev ps_M_Sentence_holds : List Str := ["self", "net", "tale"]
noncomputable def g_M_Sentence_holds : Ev → Fl := (retG (eOp isND (eMeth "doubt" 3 (tab_doubt 12) (varR 0) (aCons (varR 1) (aCons (varR 2) aNil))) (conR .non)))
noncomputable def φ_M_Sentence_holds : List D → R := runF 0 g_M_Sentence_holds
noncomputable def tab_holds : MTab := [("Sentence", φ_M_Sentence_holds), ("Came", φ_M_Sentence_holds), ("Both", φ_M_Sentence_holds), ("Either", φ_M_Sentence_holds)]
noncomputable abbrev s_L_right : Stmt := top 30
noncomputable abbrev N_L_right : List Str := ["_law_sentence", "_law_tree_here", "_law_net_here", "_law_tale_here", "_law_due_here", "_law_found", "_law_held"]
noncomputable abbrev ps_L_right : List Str := ["_law_sentence", "_law_tree_here", "_law_net_here", "_law_tale_here"]
noncomputable def g_L_right_j1 : Ev → Fl := (seqG (setG 6 (eMeth "holds" 3 tab_holds (varR 0) (aCons (varR 2) (aCons (varR 3) aNil))))
    (retG (eAnd (eCall isiD (aCons (varR 6) (aCons (conR (.ty "bool")) aNil))) (eOp eqD (varR 6) (eOp isND (varR 4) (conR .non))))))
noncomputable def g_L_right_j2 : Ev → Fl := (seqG (ifG (eAnd (eOp notND (varR 4) (conR .non)) (eOr (eNot (eCall isiD (aCons (varR 5) (aCons (conR (.ty "tuple")) aNil)))) (eOp neD (varR 5) (varR 4)))) (retG (conR (.bl false))) (.nx))
    g_L_right_j1)
noncomputable def g_L_right : Ev → Fl := (seqG (setG 4 (eFn 2 (φ_L_due 12) (aCons (varR 1) (aCons (varR 3) aNil))))
    (seqG (setG 5 (eMeth "doubt" 3 (tab_doubt 12) (varR 0) (aCons (varR 2) (aCons (varR 3) aNil))))
    (seqG (ifG (eAnd (eOp isND (varR 4) (conR .non)) (eOp notND (varR 5) (conR .non))) (retG (conR (.bl false))) (.nx))
    g_L_right_j2)))
noncomputable def φ_L_right : List D → R := runF 3 g_L_right
noncomputable abbrev s_L_signs : Stmt := top 25
noncomputable abbrev N_L_signs : List Str := ["_law_script", "_law_net_here", "_law_last", "_law_signs_here", "_law_at", "_law_names", "_law_k", "_law_number", "_law_sign"]
noncomputable abbrev ps_L_signs : List Str := ["_law_script", "_law_net_here", "_law_last"]
noncomputable def g_L_signs_b1 : Ev → Fl := (seqG (setG 7 (eFn 2 φ_L_mix (aCons (eFn 2 φ_L_cell_at (aCons (varR 0) (aCons (eOp addD (conR (.int 3)) (varR 6)) aNil))) (aCons (eOp addD (conR (.int 500)) (varR 6)) aNil))))
    (seqG (setG 8 (eTup (aCons (eOp modD (varR 7) (eOp idxD (varR 1) (conR (.int 0)))) (aCons (eOp modD (eOp fdivD (varR 7) (conR (.int 5))) (eOp addD (varR 2) (conR (.int 1)))) (aCons (eOp idxD (varR 5) (eOp modD (eOp fdivD (varR 7) (conR (.int 300))) (conR (.int 4)))) aNil)))))
    (ifG (eOp notInD (varR 8) (varR 3)) (appG 3 (varR 8)) (.nx))))
noncomputable def g_L_signs_j1 : Ev → Fl := (seqG (forG (iRngW (aCons (eOp modD (eFn 2 φ_L_mix (aCons (eFn 2 φ_L_cell_at (aCons (varR 0) (aCons (conR (.int 2)) aNil))) (aCons (conR (.int 2)) aNil))) (conR (.int 5))) aNil)) (bName 6) g_L_signs_b1)
    (retVarG 3))
noncomputable def g_L_signs : Ev → Fl := (seqG (setG 3 (eLst aNil))
    (seqG (setG 4 (eOp modD (eOp fdivD (eFn 2 φ_L_cell_at (aCons (varR 0) (aCons (conR (.int 2)) aNil))) (conR (.int 25))) (conR (.int 12))))
    (seqG (setG 5 (eLst (aCons (conR (.str (Str.ofString "a"))) (aCons (conR (.str (Str.ofString "ab"))) (aCons (conR (.str (Str.ofString "ba"))) (aCons (conR (.str (Str.ofString "zzzzzzzzzzzz"))) aNil))))))
    (seqG (ifG (eOp eqD (eOp modD (eOp fdivD (eFn 2 φ_L_cell_at (aCons (varR 0) (aCons (conR (.int 2)) aNil))) (conR (.int 300))) (conR (.int 2))) (conR (.int 1))) (setG 5 (eLst (aCons (conR (.str (Str.ofString "aaaaaaaaaaaa"))) (aCons (eOp addD (eOp addD (eOp mulD (conR (.str (Str.ofString "a"))) (varR 4)) (conR (.str (Str.ofString "b")))) (eOp mulD (conR (.str (Str.ofString "a"))) (eOp subD (conR (.int 11)) (varR 4)))) (aCons (eOp addD (eOp addD (eOp mulD (conR (.str (Str.ofString "a"))) (varR 4)) (conR (.str (Str.ofString "c")))) (eOp mulD (conR (.str (Str.ofString "a"))) (eOp subD (conR (.int 11)) (varR 4)))) (aCons (eOp mulD (conR (.str (Str.ofString "a"))) (conR (.int 11))) aNil)))))) (.nx))
    g_L_signs_j1))))
noncomputable def φ_L_signs : List D → R := runF 6 g_L_signs
noncomputable abbrev s_L_tale : Stmt := top 26
noncomputable abbrev N_L_tale : List Str := ["_law_script", "_law_net_here", "_law_last", "_law_runs", "_law_k", "_law_start", "_law_goal", "_law_most", "_law_left", "_law_number", "_law_come"]
noncomputable abbrev ps_L_tale : List Str := ["_law_script", "_law_net_here"]
noncomputable def g_L_tale_j1 : Ev → Fl := (ifG (eOp leD (varR 10) (varR 2)) (frzG 10 (appG 3 (eTup (aCons (varR 5) (aCons (varR 6) (aCons (varR 8) (aCons (varR 10) aNil))))))) (.nx))
noncomputable def g_L_tale_j2 : Ev → Fl := (seqG (ifG (eAnd (eOp notND (varR 7) (conR .non)) (eOp eqD (eOp modD (varR 9) (conR (.int 3))) (conR (.int 0)))) (setG 10 (eOp addD (varR 8) (varR 7))) (.nx))
    g_L_tale_j1)
noncomputable def g_L_tale_j3 : Ev → Fl := (seqG (ifG (eOp notND (varR 7) (conR .non)) (setG 10 (eOp addD (eOp addD (varR 8) (conR (.int 1))) (eOp modD (eOp fdivD (varR 9) (conR (.int 3))) (eCall min2D (aCons (varR 7) (aCons (conR (.int 4)) aNil)))))) (.nx))
    g_L_tale_j2)
noncomputable def g_L_tale_b1 : Ev → Fl := (seqG (setG 4 (eOp addD (varR 4) (conR (.int 1))))
    (seqG (setG 9 (eFn 2 φ_L_mix (aCons (eFn 2 φ_L_cell_at (aCons (varR 0) (aCons (eOp addD (conR (.int 3)) (eOp modD (varR 4) (conR (.int 60)))) aNil))) (aCons (varR 4) aNil))))
    (seqG (setG 10 (eOp addD (eOp addD (varR 8) (conR (.int 1))) (eOp modD (eOp fdivD (varR 9) (conR (.int 3))) (conR (.int 4)))))
    (seqG (ifG (eAnd (eOp isND (varR 7) (conR .non)) (eOp eqD (eOp modD (varR 9) (conR (.int 3))) (conR (.int 0)))) (.ct) (.nx))
    g_L_tale_j3))))
noncomputable def g_L_tale_b2 : Ev → Fl := (forG (iRngW (aCons (varR 2) aNil)) (bName 8) g_L_tale_b1)
noncomputable def g_L_tale_j4 : Ev → Fl := (frzG 3 (retG (eTup (aCons (varR 2) (aCons (varR 3) (aCons (eFn 3 φ_L_signs (aCons (varR 0) (aCons (varR 1) (aCons (varR 2) aNil)))) aNil))))))
noncomputable def g_L_tale_j5 : Ev → Fl := (seqG (ifG (eOp eqD (eOp modD (varR 2) (conR (.int 2))) (conR (.int 1))) (setG 3 (eOp stepD (varR 3) (eUn negD (conR (.int 1))))) (.nx))
    g_L_tale_j4)
noncomputable def g_L_tale_j6 : Ev → Fl := (seqG (setG 3 (eLst aNil))
    (seqG (setG 4 (conR (.int 0)))
    (seqG (forG (iLst (eOp idxD (varR 1) (conR (.int 1)))) (bTup 3 (bCons (bName 5) (bCons (bName 6) (bCons (bName 7) bNil)))) g_L_tale_b2)
    g_L_tale_j5)))
noncomputable def g_L_tale : Ev → Fl := (seqG (setG 2 (eOp modD (eFn 2 φ_L_cell_at (aCons (varR 0) (aCons (conR (.int 2)) aNil))) (conR (.int 9))))
    (seqG (ifG (eOp eqD (eOp modD (eOp fdivD (eFn 2 φ_L_mix (aCons (eFn 2 φ_L_cell_at (aCons (varR 0) (aCons (conR (.int 0)) aNil))) (aCons (conR (.int 1)) aNil))) (conR (.int 8))) (conR (.int 8))) (conR (.int 2))) (setG 2 (eOp modD (eFn 2 φ_L_cell_at (aCons (varR 0) (aCons (conR (.int 2)) aNil))) (conR (.int 25)))) (.nx))
    g_L_tale_j6))
noncomputable def φ_L_tale : List D → R := runF 9 g_L_tale
noncomputable abbrev s_L_tree : Stmt := top 27
noncomputable abbrev N_L_tree : List Str := ["_law_script", "_law_tale_here", "_law_depth", "_law_k", "_law_number", "_law_names", "_law_until", "_law_one"]
noncomputable abbrev ps_L_tree : List Str := ["_law_script", "_law_tale_here", "_law_depth", "_law_k"]
noncomputable def g_L_tree_j1 (r : List D → R) : Ev → Fl := (seqG (setG 7 (eFn 4 r (aCons (varR 0) (aCons (varR 1) (aCons (eOp subD (varR 2) (conR (.int 1))) (aCons (eOp addD (eOp mulD (conR (.int 2)) (varR 3)) (conR (.int 1))) aNil))))))
    (frzG 7 (retG (eTup (aCons (eOp idxD (eLst (aCons (conR (.str (Str.ofString "both"))) (aCons (conR (.str (Str.ofString "either"))) aNil))) (eOp modD (eOp fdivD (varR 4) (conR (.int 5))) (conR (.int 2)))) (aCons (varR 7) (aCons (eFn 4 r (aCons (varR 0) (aCons (varR 1) (aCons (eOp subD (varR 2) (conR (.int 1))) (aCons (eOp addD (eOp mulD (conR (.int 2)) (varR 3)) (conR (.int 2))) aNil))))) aNil)))))))
noncomputable def g_L_tree (r : List D → R) : Ev → Fl := (seqG (setG 4 (eFn 2 φ_L_mix (aCons (eFn 2 φ_L_cell_at (aCons (varR 0) (aCons (eOp addD (conR (.int 3)) (eOp modD (varR 3) (conR (.int 60)))) aNil))) (aCons (eOp addD (conR (.int 40)) (varR 3)) aNil))))
    (seqG (setG 5 (eOp addD (eComp ([none] : List (Option Nat)) (iLst (eOp idxD (varR 1) (conR (.int 2)))) (bName 0) (conR (.bl true)) (eOp idxD (varR 0) (conR (.int 2)))) (eLst (aCons (conR (.str (Str.ofString "a"))) (aCons (conR (.str (Str.ofString "none"))) (aCons (conR (.str (Str.ofString "aaaaaaaaaaaa"))) aNil))))))
    (seqG (ifG (eOr (eOp eqD (varR 2) (conR (.int 0))) (eOp eqD (eOp modD (varR 4) (conR (.int 5))) (conR (.int 0)))) (seqG (setG 6 (eOp idxD (eLst (aCons (conR .non) (aCons (conR (.str (Str.ofString "left out"))) (aCons (eOp subD (eOp modD (eOp fdivD (varR 4) (conR (.int 5))) (eOp addD (eOp idxD (varR 1) (conR (.int 0))) (conR (.int 3)))) (conR (.int 1))) (aCons (eOp powD (conR (.int 10)) (conR (.int 50))) (aCons (eUn negD (eOp powD (conR (.int 10)) (conR (.int 50)))) aNil)))))) (eOp modD (eOp fdivD (varR 4) (conR (.int 60))) (conR (.int 5)))))
    (retG (eTup (aCons (conR (.str (Str.ofString "came"))) (aCons (eOp idxD (varR 5) (eOp modD (eOp fdivD (varR 4) (conR (.int 300))) (eCall lenD (aCons (varR 5) aNil)))) (aCons (varR 6) aNil)))))) (.nx))
    (g_L_tree_j1 r))))
noncomputable def φ_L_tree : Nat → List D → R
  | 0 => fun _ => .no
  | n + 1 => runF 4 (g_L_tree (φ_L_tree n))
noncomputable abbrev s_M_Knows_init : Stmt := inClass (top 16) 0
noncomputable abbrev ps_M_Knows_init : List Str := ["self", "house", "turn", "inside"]
noncomputable abbrev fs_Knows : List (Ev → R) := [(varR 1), (varR 2), (varR 3)]
noncomputable abbrev s_M_Shared_init : Stmt := inClass (top 17) 0
noncomputable abbrev ps_M_Shared_init : List Str := ["self", "houses", "turn", "inside"]
noncomputable abbrev fs_Shared : List (Ev → R) := [(eCall listD (aCons (varR 1) aNil)), (varR 2), (varR 3)]
noncomputable abbrev s_law : Stmt := top 31
noncomputable abbrev N_law : List Str := ["_law_script", "_law_net_here", "_law_tale_here", "_law_other", "_law_tree_here", "_law_sentence", "_law_handed", "_law_some", "_law_one", "_law_base"]
noncomputable abbrev ps_law : List Str := ["_law_script"]
noncomputable def g_law_b1 : Ev → Fl := (ifG (eNot (eFn 4 φ_L_right (aCons (varR 5) (aCons (varR 4) (aCons (eOp idxD (varR 6) (conR (.int 0))) (aCons (varR 7) aNil)))))) (retG (conR (.bl false))) (.nx))
noncomputable def g_law_b2 : Ev → Fl := (ifG (eNot (eIsC [("Sentence", true), ("Came", true), ("Both", true), ("Either", true), ("Knows", true), ("Shared", true)] (varR 8))) (retG (conR (.bl false))) (.nx))
noncomputable def g_law_j1 : Ev → Fl := (seqG (setG 9 (eNew "Sentence"))
    (frzG 2 (frzG 1 (retG (eAnd (eOp isBD (eMeth "holds" 3 tab_holds (varR 9) (aCons (varR 1) (aCons (varR 2) aNil))) (conR (.bl false))) (eAnd (eOp eqD (eMeth "doubt" 3 (tab_doubt 12) (varR 9) (aCons (varR 1) (aCons (varR 2) aNil))) (eTup (aCons (conR (.str (Str.ofString "no"))) (aCons (conR (.str (Str.ofString ""))) aNil)))) (eOp eqD (varR 6) (eTup (aCons (varR 1) (aCons (varR 2) aNil))))))))))
noncomputable def g_law_j2 : Ev → Fl := (frzG 5 (seqG (setG 7 (eLst (aCons (eMake "Came" ["name", "by"] fs_Came 3 [.non] (aCons (conR (.str (Str.ofString "a"))) aNil)) (aCons (eMake "Both" ["one", "other"] fs_Both 3 [] (aCons (eMake "Came" ["name", "by"] fs_Came 3 [.non] (aCons (conR (.str (Str.ofString "b"))) aNil)) (aCons (varR 5) aNil))) (aCons (eMake "Either" ["one", "other"] fs_Either 3 [] (aCons (varR 5) (aCons (eMake "Came" ["name", "by"] fs_Came 3 [.non] (aCons (conR (.str (Str.ofString "b"))) aNil)) aNil))) aNil)))))
    (frzG 5 (seqG (setG 7 (eOp addD (varR 7) (eLst (aCons (eMake "Knows" ["house", "turn", "inside"] fs_Knows 4 [] (aCons (conR (.int 0)) (aCons (conR (.int 0)) (aCons (varR 5) aNil)))) (aCons (eMake "Shared" ["houses", "turn", "inside"] fs_Shared 4 [] (aCons (eLst (aCons (conR (.int 0)) aNil)) (aCons (conR (.int 0)) (aCons (varR 5) aNil)))) aNil)))))
    (frzG 7 (seqG (forG (iLT (varR 7)) (bName 8) g_law_b2)
    g_law_j1))))))
noncomputable def g_law : Ev → Fl := (seqG (setG 1 (eFn 1 φ_L_net (aCons (varR 0) aNil)))
    (frzG 1 (seqG (setG 2 (eFn 2 φ_L_tale (aCons (varR 0) (aCons (varR 1) aNil))))
    (seqG (setG 3 (eTup (aCons (eOp idxD (varR 2) (conR (.int 0))) (aCons (eOp idxD (varR 2) (conR (.int 1))) (aCons (eOp addD (eSlX (eOp idxD (varR 2) (conR (.int 2))) (conR (.int 1))) (eLst (aCons (eTup (aCons (conR (.int 0)) (aCons (conR (.int 0)) (aCons (conR (.str (Str.ofString "none"))) aNil)))) aNil))) aNil)))))
    (frzG 2 (seqG (setG 4 (eFn 4 (φ_L_tree 12) (aCons (varR 0) (aCons (varR 2) (aCons (conR (.int 4)) (aCons (conR (.int 0)) aNil))))))
    (frzG 4 (seqG (setG 5 (eFn 1 (φ_L_object 12) (aCons (varR 4) aNil)))
    (seqG (setG 6 (eTup (aCons (eTup (aCons (eOp idxD (varR 1) (conR (.int 0))) (aCons (eCall listD (aCons (eOp idxD (varR 1) (conR (.int 1))) aNil)) aNil))) (aCons (eTup (aCons (eOp idxD (varR 2) (conR (.int 0))) (aCons (eCall listD (aCons (eOp idxD (varR 2) (conR (.int 1))) aNil)) (aCons (eCall listD (aCons (eOp idxD (varR 2) (conR (.int 2))) aNil)) aNil)))) aNil))))
    (seqG (forG (iLst (eLst (aCons (eOp idxD (varR 6) (conR (.int 1))) (aCons (varR 3) (aCons (eOp idxD (varR 6) (conR (.int 1))) aNil))))) (bName 7) g_law_b1)
    g_law_j2))))))))))
noncomputable def φ_law : List D → R := runF 9 g_law
section
variable {P : Program} {w : World} {K : PySem.W.Frag} {mg : Str → Option Value} {base : Heap}
theorem sc_L_cell_at : FnScope N_L_cell_at ps_L_cell_at (defScope s_L_cell_at) := ⟨rfl, rfl, rfl, by decide +kernel, rfl, by decide +kernel, by decide +kernel⟩
theorem ok_L_cell_at {f : Addr} {fd : FuncData} (Fn : Fun K "_law_cell_at" "_law_cell_at" s_L_cell_at f fd) (m_len : mg "len" = none) : FnOk P w K mg base CX0 1 f fd ps_L_cell_at (spV0 K φ_L_cell_at 2) :=
  fn_ok (N := N_L_cell_at) (ps := ps_L_cell_at) (k := 0) (g := g_L_cell_at) Fn sc_L_cell_at (fun cdv A outer s H E F0 hr => let hu := room_u hr; (vs_cons (vs_if (vt_cmp c_lt (v_var 1) (v_len m_len (va_cons (v_var 0) va_nil))) (vs_one (vs_ret (v_idx hu (v_var 0) (v_var 1)))) vs_nil)
    (vs_one (vs_ret v_int))))
theorem sc_L_mix : FnScope N_L_mix ps_L_mix (defScope s_L_mix) := ⟨rfl, rfl, rfl, by decide +kernel, rfl, by decide +kernel, by decide +kernel⟩
theorem ok_L_mix {f : Addr} {fd : FuncData} (Fn : Fun K "_law_mix" "_law_mix" s_L_mix f fd) : FnOk P w K mg base CX0 1 f fd ps_L_mix (spV0 K φ_L_mix 2) :=
  fn_ok (N := N_L_mix) (ps := ps_L_mix) (k := 0) (g := g_L_mix) Fn sc_L_mix (fun cdv A outer s H E F0 hr => (vs_cons (vs_set 2 sc_L_mix.nd (v_mod (v_mul (v_add (v_add (v_mod (v_var 0) v_int) (v_mul (v_mul (v_var 1) (v_var 1)) v_int)) (v_var 1)) v_int) v_int))
    (vs_one (vs_ret (v_fdiv (v_mod (v_mul (v_var 2) (v_var 2)) v_int) v_int)))))
theorem sc_L_net : FnScope N_L_net ps_L_net (defScope s_L_net) := ⟨rfl, rfl, rfl, by decide +kernel, rfl, by decide +kernel, by decide +kernel⟩
theorem ok_L_net {f : Addr} {fd : FuncData} (Fn : Fun K "_law_net" "_law_net" s_L_net f fd) (m_abs : mg "abs" = none) (m_range : mg "range" = none) (C_L_cell_at : Callee P w K mg base 1 "_law_cell_at" 2 φ_L_cell_at) (C_L_mix : Callee P w K mg base 1 "_law_mix" 2 φ_L_mix) : FnOk P w K mg base CX0 2 f fd ps_L_net (spV0 K φ_L_net 1) :=
  fn_ok (N := N_L_net) (ps := ps_L_net) (k := 1) (g := g_L_net) Fn sc_L_net (fun cdv A outer s H E F0 hr => let hu := room_u hr; (vs_cons (vs_set 1 sc_L_net.nd (v_fn C_L_mix (hr.mono (by decide)) (va_cons (v_fn C_L_cell_at (hr.mono (by decide)) (va_cons (v_var 0) (va_cons v_int va_nil))) (va_cons v_int va_nil))))
    (vs_cons (vs_set 2 sc_L_net.nd (v_add v_int (v_mod (v_fn C_L_cell_at (hr.mono (by decide)) (va_cons (v_var 0) (va_cons v_int va_nil))) v_int)))
    (vs_cons (vs_if (vt_cmp (c_eq hu) (v_mod (v_fdiv (v_var 1) v_int) v_int) v_int) (vs_one (vs_set 2 sc_L_net.nd (v_add v_int (v_mod (v_fdiv (v_var 1) v_int) v_int)))) vs_nil)
    (vs_cons (vs_if (vt_cmp (c_eq hu) (v_mod (v_fdiv (v_var 1) v_int) v_int) v_int) (vs_one (vs_set 2 sc_L_net.nd v_int)) vs_nil)
    (vs_cons (vs_set 3 sc_L_net.nd (v_lst va_nil))
    (vs_cons (vs_for .never rfl (vi_rngW m_range (va_cons (v_var 2) va_nil)) (vg_name 4 sc_L_net.nd)
    (vs_one (vs_for .never rfl (vi_rngW m_range (va_cons (v_var 2) va_nil)) (vg_name 5 sc_L_net.nd)
    (vs_cons (vs_set 6 sc_L_net.nd (v_fn C_L_mix (hr.mono (by decide)) (va_cons (v_fn C_L_cell_at (hr.mono (by decide)) (va_cons (v_var 0) (va_cons v_int va_nil))) (va_cons (v_add (v_mul v_int (v_var 4)) (v_var 5)) va_nil))))
    (vs_cons (vs_set 7 sc_L_net.nd (v_and (v_cmp c_gt (v_abs m_abs (va_cons (v_sub (v_var 5) (v_var 4)) va_nil)) v_int) (v_one (v_or (v_cmp (c_eq hu) (v_mod (v_var 1) v_int) v_int) (v_one (v_cmp c_gt (v_var 2) v_int))))))
    (vs_cons (vs_if (vt_w (vw_or (vt_cmp (c_eq hu) (v_var 4) (v_var 5)) (vw_or (vt_val (v_var 7)) (vw_or1 (vt_cmp (c_eq hu) (v_mod (v_var 6) v_int) v_int))))) (vs_one vs_continue) vs_nil)
    (vs_cons (vs_set 8 sc_L_net.nd (v_idx hu (v_lst (va_cons v_non (va_cons v_int (va_cons v_int (va_cons (v_add v_int (v_mod (v_fdiv (v_var 6) v_int) v_int)) (va_cons (v_add (v_pow v_int v_int) (v_var 6)) va_nil)))))) (v_sub (v_mod (v_var 6) v_int) v_int)))
    (vs_one (vs_app 3 (v_tup (va_cons (v_var 4) (va_cons (v_var 5) (va_cons (v_var 8) va_nil)))))))))))))
    (vs_cons (vs_if (vt_cmp (c_eq hu) (v_mod (v_fdiv (v_var 1) v_int) v_int) v_int) (vs_one (vs_set 3 sc_L_net.nd (v_step (v_var 3) (v_neg v_int)))) vs_nil)
    (vs_frz 3 (vs_frz 2 (vs_one (vs_ret (v_tup (va_cons (v_var 2) (va_cons (v_var 3) va_nil)))))))))))))))
theorem sc_M_Both_init : FnScope ps_M_Both_init ps_M_Both_init (defScope s_M_Both_init) := ⟨rfl, rfl, rfl, by decide +kernel, rfl, by decide +kernel, by decide +kernel⟩
theorem ok_M_Both_init {f : Addr} {dV : Value} {fd : FuncData} (Fn : FunD K "__init__" "Both.__init__" s_M_Both_init f dV fd) : FnOk P w K mg base CX0 1 f fd ps_M_Both_init (spI K ["one", "other"] fs_Both 3) :=
  init_ok (ps := ps_M_Both_init) (k := 0) Fn sc_M_Both_init (by decide +kernel) (by decide) (fun cdv A outer s H E F0 H0 o C dx hr => (vi_cons (v_var 1) (vi_cons (v_var 2) vi_nil)))
theorem sc_M_Came_init : FnScope ps_M_Came_init ps_M_Came_init (defScope s_M_Came_init) := ⟨rfl, rfl, rfl, by decide +kernel, rfl, by decide +kernel, by decide +kernel⟩
theorem ok_M_Came_init {f : Addr} {dV : Value} {fd : FuncData} (Fn : FunD K "__init__" "Came.__init__" s_M_Came_init f dV fd) : FnOk P w K mg base CX0 1 f fd ps_M_Came_init (spI K ["name", "by"] fs_Came 3) :=
  init_ok (ps := ps_M_Came_init) (k := 0) Fn sc_M_Came_init (by decide +kernel) (by decide) (fun cdv A outer s H E F0 H0 o C dx hr => (vi_cons (v_var 1) (vi_cons (v_var 2) vi_nil)))
theorem sc_M_Either_init : FnScope ps_M_Either_init ps_M_Either_init (defScope s_M_Either_init) := ⟨rfl, rfl, rfl, by decide +kernel, rfl, by decide +kernel, by decide +kernel⟩
theorem ok_M_Either_init {f : Addr} {dV : Value} {fd : FuncData} (Fn : FunD K "__init__" "Either.__init__" s_M_Either_init f dV fd) : FnOk P w K mg base CX0 1 f fd ps_M_Either_init (spI K ["one", "other"] fs_Either 3) :=
  init_ok (ps := ps_M_Either_init) (k := 0) Fn sc_M_Either_init (by decide +kernel) (by decide) (fun cdv A outer s H E F0 H0 o C dx hr => (vi_cons (v_var 1) (vi_cons (v_var 2) vi_nil)))
theorem sc_L_object : FnScope N_L_object ps_L_object (defScope s_L_object) := ⟨rfl, rfl, rfl, by decide +kernel, rfl, by decide +kernel, by decide +kernel⟩
theorem ok_L_object {f : Addr} {fd : FuncData} (Fn : Fun K "_law_object" "_law_object" s_L_object f fd) (M_Both_0 : MkOk P w K mg base 1 "Both" ["one", "other"] fs_Both 3 []) (M_Came_0 : MkOk P w K mg base 1 "Came" ["name", "by"] fs_Came 3 []) (M_Came_1 : MkOk P w K mg base 1 "Came" ["name", "by"] fs_Came 3 [.non]) (M_Came_K_by : MkOkK P w K mg base 1 "Came" ["name", "by"] fs_Came 3 ["by"]) (M_Either_0 : MkOk P w K mg base 1 "Either" ["one", "other"] fs_Either 3 []) {n : Nat} {r : List D → R} (C_r : Callee P w K mg base (2 + n) "_law_object" 1 r) : FnOk P w K mg base CX0 (2 + n + 1) f fd ps_L_object (spV0 K (runF 0 (g_L_object r)) 1) :=
  fn_ok (N := N_L_object) (ps := ps_L_object) (k := 2 + n) (g := g_L_object r) Fn sc_L_object (fun cdv A outer s H E F0 hr => let hu := room_u hr; (vs_cons (vs_if (vt_w (vw_and (vt_cmp (c_eq hu) (v_idx hu (v_var 0) v_int) v_str) (vw_and1 (vt_cmp (c_eq hu) (v_idx hu (v_var 0) v_int) v_str)))) (vs_one (vs_ret (v_make M_Came_1 (hr.mono (by omega)) (va_cons (v_idx hu (v_var 0) v_int) va_nil)))) vs_nil)
    (vs_cons (vs_if (vt_w (vw_and (vt_cmp (c_eq hu) (v_idx hu (v_var 0) v_int) v_str) (vw_and (vt_cmp c_notN (v_idx hu (v_var 0) v_int) v_non) (vw_and1 (vt_cmp c_gt (v_idx hu (v_var 0) v_int) v_int))))) (vs_one (vs_ret (v_makeK M_Came_K_by (hr.mono (by omega)) (va_cons (v_idx hu (v_var 0) v_int) va_nil) (vk_cons (v_idx hu (v_var 0) v_int) vk_nil)))) vs_nil)
    (vs_cons (vs_if (vt_cmp (c_eq hu) (v_idx hu (v_var 0) v_int) v_str) (vs_one (vs_ret (v_make M_Came_0 (hr.mono (by omega)) (va_cons (v_idx hu (v_var 0) v_int) (va_cons (v_idx hu (v_var 0) v_int) va_nil))))) vs_nil)
    (vs_cons (vs_if (vt_cmp (c_eq hu) (v_idx hu (v_var 0) v_int) v_str) (vs_one (vs_ret (v_make M_Both_0 (hr.mono (by omega)) (va_cons (v_fn C_r (hr.mono (by omega)) (va_cons (v_idx hu (v_var 0) v_int) va_nil)) (va_cons (v_fn C_r (hr.mono (by omega)) (va_cons (v_idx hu (v_var 0) v_int) va_nil)) va_nil))))) vs_nil)
    (vs_one (vs_ret (v_make M_Either_0 (hr.mono (by omega)) (va_cons (v_fn C_r (hr.mono (by omega)) (va_cons (v_idx hu (v_var 0) v_int) va_nil)) (va_cons (v_fn C_r (hr.mono (by omega)) (va_cons (v_idx hu (v_var 0) v_int) va_nil)) va_nil))))))))))
theorem sc_L_due : FnScope N_L_due ps_L_due (defScope s_L_due) := ⟨rfl, rfl, rfl, by decide +kernel, rfl, by decide +kernel, by decide +kernel⟩
theorem ok_L_due {f : Addr} {fd : FuncData} (Fn : Fun K "_law_due" "_law_due" s_L_due f fd) {n : Nat} {r : List D → R} (C_r : Callee P w K mg base (0 + n) "_law_due" 2 r) : FnOk P w K mg base CX0 (0 + n + 1) f fd ps_L_due (spV0 K (runF 5 (g_L_due r)) 2) :=
  fn_ok (N := N_L_due) (ps := ps_L_due) (k := 0 + n) (g := g_L_due r) Fn sc_L_due (fun cdv A outer s H E F0 hr => let hu := room_u hr; (vs_cons (vs_if (vt_cmp (c_eq hu) (v_idx hu (v_var 0) v_int) v_str) (vs_cons (vs_for .never rfl (vi_list (v_idx hu (v_var 1) v_int)) (vg_tup rfl (vg_cons (vg_name 2 sc_L_due.nd) (vg_cons (vg_name 3 sc_L_due.nd) (vg_cons (vg_name 4 sc_L_due.nd) vg_nil))))
    (vs_one (vs_if (vt_w (vw_and (vt_cmp (c_eq hu) (v_var 4) (v_idx hu (v_var 0) v_int)) (vw_and1 (vt_w (vw_or (vt_cmp (c_in hu) (v_idx hu (v_var 0) v_int) (v_lst (va_cons v_non (va_cons v_str va_nil)))) (vw_or1 (vt_cmp c_le (v_var 3) (v_idx hu (v_var 0) v_int)))))))) (vs_one (vs_ret v_non)) vs_nil)))
    (vs_one (vs_ret (v_tup (va_cons v_str (va_cons (v_idx hu (v_var 0) v_int) va_nil)))))) vs_nil)
    (vs_cons (vs_set 5 sc_L_due.nd (v_fn C_r (hr.mono (by omega)) (va_cons (v_idx hu (v_var 0) v_int) (va_cons (v_var 1) va_nil))))
    (vs_cons (vs_set 6 sc_L_due.nd (v_fn C_r (hr.mono (by omega)) (va_cons (v_idx hu (v_var 0) v_int) (va_cons (v_var 1) va_nil))))
    (vs_cons (vs_if (vt_w (vw_and (vt_cmp (c_eq hu) (v_idx hu (v_var 0) v_int) v_str) (vw_and (vt_cmp c_notN (v_var 5) v_non) (vw_and1 (vt_cmp c_notN (v_var 6) v_non))))) (vs_frz 6 (vs_frz 5 (vs_one (vs_ret (v_tup (va_cons v_str (va_cons (v_var 5) (va_cons (v_var 6) va_nil)))))))) vs_nil)
    (vs_cons (vs_if (vt_w (vw_and (vt_cmp (c_eq hu) (v_idx hu (v_var 0) v_int) v_str) (vw_and1 (vt_cmp c_notN (v_var 5) v_non)))) (vs_frz 5 (vs_one (vs_ret (v_tup (va_cons v_str (va_cons (v_var 5) va_nil)))))) vs_nil)
    (vs_cons (vs_if (vt_w (vw_and (vt_cmp (c_eq hu) (v_idx hu (v_var 0) v_int) v_str) (vw_and1 (vt_cmp c_notN (v_var 6) v_non)))) (vs_frz 6 (vs_one (vs_ret (v_tup (va_cons v_str (va_cons (v_var 6) va_nil)))))) vs_nil)
    (vs_one (vs_ret v_non)))))))))
theorem sc_M_Sentence_doubt : FnScope N_M_Sentence_doubt ps_M_Sentence_doubt (defScope s_M_Sentence_doubt) := ⟨rfl, rfl, rfl, by decide +kernel, rfl, by decide +kernel, by decide +kernel⟩
theorem ok_M_Sentence_doubt {f : Addr} {fd : FuncData} (Fn : Fun K "doubt" "Sentence.doubt" s_M_Sentence_doubt f fd) {n : Nat} {t : MTab} (D_t : DispOk P w K mg base (0 + n) "doubt" 3 t) : FnOk P w K mg base CX0 (0 + n + 1) f fd ps_M_Sentence_doubt (spV0 K (runF 0 (g_M_Sentence_doubt t)) 3) :=
  fn_ok (N := N_M_Sentence_doubt) (ps := ps_M_Sentence_doubt) (k := 0 + n) (g := g_M_Sentence_doubt t) Fn sc_M_Sentence_doubt (fun cdv A outer s H E F0 hr => (vs_one (vs_ret (v_tup (va_cons v_str (va_cons v_str va_nil))))))
theorem sc_M_Came_doubt : FnScope N_M_Came_doubt ps_M_Came_doubt (defScope s_M_Came_doubt) := ⟨rfl, rfl, rfl, by decide +kernel, rfl, by decide +kernel, by decide +kernel⟩
theorem ok_M_Came_doubt {f : Addr} {fd : FuncData} (Fn : Fun K "doubt" "Came.doubt" s_M_Came_doubt f fd) (FO_Came_by : FldOk K ["Came"] "by") (FO_Came_name : FldOk K ["Came"] "name") {n : Nat} {t : MTab} (D_t : DispOk P w K mg base (0 + n) "doubt" 3 t) : FnOk P w K mg base CX0 (0 + n + 1) f fd ps_M_Came_doubt (spV0 K (runF 3 (g_M_Came_doubt t)) 3) :=
  fn_ok (N := N_M_Came_doubt) (ps := ps_M_Came_doubt) (k := 0 + n) (g := g_M_Came_doubt t) Fn sc_M_Came_doubt (fun cdv A outer s H E F0 hr => let hu := room_u hr; (vs_cons (vs_for .never rfl (vi_list (v_idx hu (v_var 2) v_int)) (vg_tup rfl (vg_cons (vg_name 3 sc_M_Came_doubt.nd) (vg_cons (vg_name 4 sc_M_Came_doubt.nd) (vg_cons (vg_name 5 sc_M_Came_doubt.nd) vg_nil))))
    (vs_one (vs_if (vt_w (vw_and (vt_cmp (c_eq hu) (v_var 5) (v_fld FO_Came_name (v_var 0))) (vw_and1 (vt_w (vw_or (vt_cmp c_isN (v_fld FO_Came_by (v_var 0)) v_non) (vw_or1 (vt_cmp c_le (v_var 4) (v_fld FO_Came_by (v_var 0))))))))) (vs_one (vs_ret v_non)) vs_nil)))
    (vs_one (vs_ret (v_tup (va_cons v_str (va_cons (v_fld FO_Came_name (v_var 0)) va_nil)))))))
theorem sc_M_Both_doubt : FnScope N_M_Both_doubt ps_M_Both_doubt (defScope s_M_Both_doubt) := ⟨rfl, rfl, rfl, by decide +kernel, rfl, by decide +kernel, by decide +kernel⟩
theorem ok_M_Both_doubt {f : Addr} {fd : FuncData} (Fn : Fun K "doubt" "Both.doubt" s_M_Both_doubt f fd) (FO_Both_one : FldOk K ["Both"] "one") (FO_Both_other : FldOk K ["Both"] "other") {n : Nat} {t : MTab} (D_t : DispOk P w K mg base (0 + n) "doubt" 3 t) : FnOk P w K mg base CX0 (0 + n + 1) f fd ps_M_Both_doubt (spV0 K (runF 2 (g_M_Both_doubt t)) 3) :=
  fn_ok (N := N_M_Both_doubt) (ps := ps_M_Both_doubt) (k := 0 + n) (g := g_M_Both_doubt t) Fn sc_M_Both_doubt (fun cdv A outer s H E F0 hr => (vs_cons (vs_set 3 sc_M_Both_doubt.nd (v_meth D_t (hr.mono (by omega)) (v_fld FO_Both_one (v_var 0)) (va_cons (v_var 1) (va_cons (v_var 2) va_nil))))
    (vs_cons (vs_if (vt_cmp c_notN (v_var 3) v_non) (vs_frz 3 (vs_one (vs_ret (v_tup (va_cons v_str (va_cons (v_var 3) va_nil)))))) vs_nil)
    (vs_cons (vs_set 4 sc_M_Both_doubt.nd (v_meth D_t (hr.mono (by omega)) (v_fld FO_Both_other (v_var 0)) (va_cons (v_var 1) (va_cons (v_var 2) va_nil))))
    (vs_frz 4 (vs_one (vs_ret (v_if (vt_cmp c_isN (v_var 4) v_non) v_non (v_tup (va_cons v_str (va_cons (v_var 4) va_nil)))))))))))
theorem sc_M_Either_doubt : FnScope N_M_Either_doubt ps_M_Either_doubt (defScope s_M_Either_doubt) := ⟨rfl, rfl, rfl, by decide +kernel, rfl, by decide +kernel, by decide +kernel⟩
theorem ok_M_Either_doubt {f : Addr} {fd : FuncData} (Fn : Fun K "doubt" "Either.doubt" s_M_Either_doubt f fd) (FO_Either_one : FldOk K ["Either"] "one") (FO_Either_other : FldOk K ["Either"] "other") {n : Nat} {t : MTab} (D_t : DispOk P w K mg base (0 + n) "doubt" 3 t) : FnOk P w K mg base CX0 (0 + n + 1) f fd ps_M_Either_doubt (spV0 K (runF 2 (g_M_Either_doubt t)) 3) :=
  fn_ok (N := N_M_Either_doubt) (ps := ps_M_Either_doubt) (k := 0 + n) (g := g_M_Either_doubt t) Fn sc_M_Either_doubt (fun cdv A outer s H E F0 hr => (vs_cons (vs_set 3 sc_M_Either_doubt.nd (v_meth D_t (hr.mono (by omega)) (v_fld FO_Either_one (v_var 0)) (va_cons (v_var 1) (va_cons (v_var 2) va_nil))))
    (vs_cons (vs_if (vt_cmp c_isN (v_var 3) v_non) (vs_one (vs_ret v_non)) vs_nil)
    (vs_cons (vs_set 4 sc_M_Either_doubt.nd (v_meth D_t (hr.mono (by omega)) (v_fld FO_Either_other (v_var 0)) (va_cons (v_var 1) (va_cons (v_var 2) va_nil))))
    (vs_frz 4 (vs_frz 3 (vs_one (vs_ret (v_if (vt_cmp c_isN (v_var 4) v_non) v_non (v_tup (va_cons v_str (va_cons (v_var 3) (va_cons (v_var 4) va_nil)))))))))))))
theorem sc_M_Sentence_holds : FnScope N_M_Sentence_holds ps_M_Sentence_holds (defScope s_M_Sentence_holds) := ⟨rfl, rfl, rfl, by decide +kernel, rfl, by decide +kernel, by decide +kernel⟩
theorem ok_M_Sentence_holds {f : Addr} {fd : FuncData} (Fn : Fun K "holds" "Sentence.holds" s_M_Sentence_holds f fd) (D_doubt : DispOk P w K mg base 12 "doubt" 3 (tab_doubt 12)) : FnOk P w K mg base CX0 13 f fd ps_M_Sentence_holds (spV0 K φ_M_Sentence_holds 3) :=
  fn_ok (N := N_M_Sentence_holds) (ps := ps_M_Sentence_holds) (k := 12) (g := g_M_Sentence_holds) Fn sc_M_Sentence_holds (fun cdv A outer s H E F0 hr => (vs_one (vs_ret (v_cmp c_isN (v_meth D_doubt (hr.mono (by decide)) (v_var 0) (va_cons (v_var 1) (va_cons (v_var 2) va_nil))) v_non))))
theorem sc_L_right : FnScope N_L_right ps_L_right (defScope s_L_right) := ⟨rfl, rfl, rfl, by decide +kernel, rfl, by decide +kernel, by decide +kernel⟩
theorem ok_L_right {f : Addr} {fd : FuncData} (Fn : Fun K "_law_right" "_law_right" s_L_right f fd) (m_bool : mg "bool" = none) (m_isinstance : mg "isinstance" = none) (m_tuple : mg "tuple" = none) (C_L_due : Callee P w K mg base 12 "_law_due" 2 (φ_L_due 12)) (D_doubt : DispOk P w K mg base 12 "doubt" 3 (tab_doubt 12)) (D_holds : DispOk P w K mg base 13 "holds" 3 tab_holds) : FnOk P w K mg base CX0 14 f fd ps_L_right (spV0 K φ_L_right 4) :=
  fn_ok (N := N_L_right) (ps := ps_L_right) (k := 13) (g := g_L_right) Fn sc_L_right (fun cdv A outer s H E F0 hr => let hu := room_u hr; (vs_cons (vs_set 4 sc_L_right.nd (v_fn C_L_due (hr.mono (by decide)) (va_cons (v_var 1) (va_cons (v_var 3) va_nil))))
    (vs_cons (vs_set 5 sc_L_right.nd (v_meth D_doubt (hr.mono (by decide)) (v_var 0) (va_cons (v_var 2) (va_cons (v_var 3) va_nil))))
    (vs_cons (vs_if (vt_w (vw_and (vt_cmp c_isN (v_var 4) v_non) (vw_and1 (vt_cmp c_notN (v_var 5) v_non)))) (vs_one (vs_ret v_bl)) vs_nil)
    (vs_cons (vs_if (vt_w (vw_and (vt_cmp c_notN (v_var 4) v_non) (vw_and1 (vt_w (vw_or (vt_not (vt_val (v_isi m_isinstance (va_cons (v_var 5) (va_cons (v_ty m_tuple) va_nil))))) (vw_or1 (vt_cmp (c_ne hu) (v_var 5) (v_var 4)))))))) (vs_one (vs_ret v_bl)) vs_nil)
    (vs_cons (vs_set 6 sc_L_right.nd (v_meth D_holds (hr.mono (by decide)) (v_var 0) (va_cons (v_var 2) (va_cons (v_var 3) va_nil))))
    (vs_one (vs_ret (v_and (v_isi m_isinstance (va_cons (v_var 6) (va_cons (v_ty m_bool) va_nil))) (v_one (v_cmp (c_eq hu) (v_var 6) (v_cmp c_isN (v_var 4) v_non))))))))))))
theorem sc_L_signs : FnScope N_L_signs ps_L_signs (defScope s_L_signs) := ⟨rfl, rfl, rfl, by decide +kernel, rfl, by decide +kernel, by decide +kernel⟩
theorem ok_L_signs {f : Addr} {fd : FuncData} (Fn : Fun K "_law_signs" "_law_signs" s_L_signs f fd) (m_range : mg "range" = none) (C_L_cell_at : Callee P w K mg base 1 "_law_cell_at" 2 φ_L_cell_at) (C_L_mix : Callee P w K mg base 1 "_law_mix" 2 φ_L_mix) : FnOk P w K mg base CX0 2 f fd ps_L_signs (spV0 K φ_L_signs 3) :=
  fn_ok (N := N_L_signs) (ps := ps_L_signs) (k := 1) (g := g_L_signs) Fn sc_L_signs (fun cdv A outer s H E F0 hr => let hu := room_u hr; (vs_cons (vs_set 3 sc_L_signs.nd (v_lst va_nil))
    (vs_cons (vs_set 4 sc_L_signs.nd (v_mod (v_fdiv (v_fn C_L_cell_at (hr.mono (by decide)) (va_cons (v_var 0) (va_cons v_int va_nil))) v_int) v_int))
    (vs_cons (vs_set 5 sc_L_signs.nd (v_lst (va_cons v_str (va_cons v_str (va_cons v_str (va_cons v_str va_nil))))))
    (vs_cons (vs_if (vt_cmp (c_eq hu) (v_mod (v_fdiv (v_fn C_L_cell_at (hr.mono (by decide)) (va_cons (v_var 0) (va_cons v_int va_nil))) v_int) v_int) v_int) (vs_one (vs_set 5 sc_L_signs.nd (v_lst (va_cons v_str (va_cons (v_add (v_add (v_mul v_str (v_var 4)) v_str) (v_mul v_str (v_sub v_int (v_var 4)))) (va_cons (v_add (v_add (v_mul v_str (v_var 4)) v_str) (v_mul v_str (v_sub v_int (v_var 4)))) (va_cons (v_mul v_str v_int) va_nil))))))) vs_nil)
    (vs_cons (vs_for .never rfl (vi_rngW m_range (va_cons (v_mod (v_fn C_L_mix (hr.mono (by decide)) (va_cons (v_fn C_L_cell_at (hr.mono (by decide)) (va_cons (v_var 0) (va_cons v_int va_nil))) (va_cons v_int va_nil))) v_int) va_nil)) (vg_name 6 sc_L_signs.nd)
    (vs_cons (vs_set 7 sc_L_signs.nd (v_fn C_L_mix (hr.mono (by decide)) (va_cons (v_fn C_L_cell_at (hr.mono (by decide)) (va_cons (v_var 0) (va_cons (v_add v_int (v_var 6)) va_nil))) (va_cons (v_add v_int (v_var 6)) va_nil))))
    (vs_cons (vs_set 8 sc_L_signs.nd (v_tup (va_cons (v_mod (v_var 7) (v_idx hu (v_var 1) v_int)) (va_cons (v_mod (v_fdiv (v_var 7) v_int) (v_add (v_var 2) v_int)) (va_cons (v_idx hu (v_var 5) (v_mod (v_fdiv (v_var 7) v_int) v_int)) va_nil)))))
    (vs_one (vs_if (vt_cmp (c_notin hu) (v_var 8) (v_var 3)) (vs_one (vs_app 3 (v_var 8))) vs_nil)))))
    (vs_one (vs_retv 3))))))))
theorem sc_L_tale : FnScope N_L_tale ps_L_tale (defScope s_L_tale) := ⟨rfl, rfl, rfl, by decide +kernel, rfl, by decide +kernel, by decide +kernel⟩
theorem ok_L_tale {f : Addr} {fd : FuncData} (Fn : Fun K "_law_tale" "_law_tale" s_L_tale f fd) (m_min : mg "min" = none) (m_range : mg "range" = none) (C_L_cell_at : Callee P w K mg base 1 "_law_cell_at" 2 φ_L_cell_at) (C_L_mix : Callee P w K mg base 1 "_law_mix" 2 φ_L_mix) (C_L_signs : Callee P w K mg base 2 "_law_signs" 3 φ_L_signs) : FnOk P w K mg base CX0 3 f fd ps_L_tale (spV0 K φ_L_tale 2) :=
  fn_ok (N := N_L_tale) (ps := ps_L_tale) (k := 2) (g := g_L_tale) Fn sc_L_tale (fun cdv A outer s H E F0 hr => let hu := room_u hr; (vs_cons (vs_set 2 sc_L_tale.nd (v_mod (v_fn C_L_cell_at (hr.mono (by decide)) (va_cons (v_var 0) (va_cons v_int va_nil))) v_int))
    (vs_cons (vs_if (vt_cmp (c_eq hu) (v_mod (v_fdiv (v_fn C_L_mix (hr.mono (by decide)) (va_cons (v_fn C_L_cell_at (hr.mono (by decide)) (va_cons (v_var 0) (va_cons v_int va_nil))) (va_cons v_int va_nil))) v_int) v_int) v_int) (vs_one (vs_set 2 sc_L_tale.nd (v_mod (v_fn C_L_cell_at (hr.mono (by decide)) (va_cons (v_var 0) (va_cons v_int va_nil))) v_int))) vs_nil)
    (vs_cons (vs_set 3 sc_L_tale.nd (v_lst va_nil))
    (vs_cons (vs_set 4 sc_L_tale.nd v_int)
    (vs_cons (vs_for .never rfl (vi_list (v_idx hu (v_var 1) v_int)) (vg_tup rfl (vg_cons (vg_name 5 sc_L_tale.nd) (vg_cons (vg_name 6 sc_L_tale.nd) (vg_cons (vg_name 7 sc_L_tale.nd) vg_nil))))
    (vs_one (vs_for .never rfl (vi_rngW m_range (va_cons (v_var 2) va_nil)) (vg_name 8 sc_L_tale.nd)
    (vs_cons (vs_set 4 sc_L_tale.nd (v_add (v_var 4) v_int))
    (vs_cons (vs_set 9 sc_L_tale.nd (v_fn C_L_mix (hr.mono (by decide)) (va_cons (v_fn C_L_cell_at (hr.mono (by decide)) (va_cons (v_var 0) (va_cons (v_add v_int (v_mod (v_var 4) v_int)) va_nil))) (va_cons (v_var 4) va_nil))))
    (vs_cons (vs_set 10 sc_L_tale.nd (v_add (v_add (v_var 8) v_int) (v_mod (v_fdiv (v_var 9) v_int) v_int)))
    (vs_cons (vs_if (vt_w (vw_and (vt_cmp c_isN (v_var 7) v_non) (vw_and1 (vt_cmp (c_eq hu) (v_mod (v_var 9) v_int) v_int)))) (vs_one vs_continue) vs_nil)
    (vs_cons (vs_if (vt_cmp c_notN (v_var 7) v_non) (vs_one (vs_set 10 sc_L_tale.nd (v_add (v_add (v_var 8) v_int) (v_mod (v_fdiv (v_var 9) v_int) (v_min2 rfl m_min (va_cons (v_var 7) (va_cons v_int va_nil))))))) vs_nil)
    (vs_cons (vs_if (vt_w (vw_and (vt_cmp c_notN (v_var 7) v_non) (vw_and1 (vt_cmp (c_eq hu) (v_mod (v_var 9) v_int) v_int)))) (vs_one (vs_set 10 sc_L_tale.nd (v_add (v_var 8) (v_var 7)))) vs_nil)
    (vs_one (vs_if (vt_cmp c_le (v_var 10) (v_var 2)) (vs_frz 10 (vs_one (vs_app 3 (v_tup (va_cons (v_var 5) (va_cons (v_var 6) (va_cons (v_var 8) (va_cons (v_var 10) va_nil)))))))) vs_nil)))))))))))
    (vs_cons (vs_if (vt_cmp (c_eq hu) (v_mod (v_var 2) v_int) v_int) (vs_one (vs_set 3 sc_L_tale.nd (v_step (v_var 3) (v_neg v_int)))) vs_nil)
    (vs_frz 3 (vs_one (vs_ret (v_tup (va_cons (v_var 2) (va_cons (v_var 3) (va_cons (v_fn C_L_signs (hr.mono (by decide)) (va_cons (v_var 0) (va_cons (v_var 1) (va_cons (v_var 2) va_nil)))) va_nil))))))))))))))
theorem sc_L_tree : FnScope N_L_tree ps_L_tree (defScope s_L_tree) := ⟨rfl, rfl, rfl, by decide +kernel, rfl, by decide +kernel, by decide +kernel⟩
theorem ok_L_tree {f : Addr} {fd : FuncData} (Fn : Fun K "_law_tree" "_law_tree" s_L_tree f fd) (m_len : mg "len" = none) (C_L_cell_at : Callee P w K mg base 1 "_law_cell_at" 2 φ_L_cell_at) (C_L_mix : Callee P w K mg base 1 "_law_mix" 2 φ_L_mix) {n : Nat} {r : List D → R} (C_r : Callee P w K mg base (1 + n) "_law_tree" 4 r) : FnOk P w K mg base CX0 (1 + n + 1) f fd ps_L_tree (spV0 K (runF 4 (g_L_tree r)) 4) :=
  fn_ok (N := N_L_tree) (ps := ps_L_tree) (k := 1 + n) (g := g_L_tree r) Fn sc_L_tree (fun cdv A outer s H E F0 hr => let hu := room_u hr; (vs_cons (vs_set 4 sc_L_tree.nd (v_fn C_L_mix (hr.mono (by omega)) (va_cons (v_fn C_L_cell_at (hr.mono (by omega)) (va_cons (v_var 0) (va_cons (v_add v_int (v_mod (v_var 3) v_int)) va_nil))) (va_cons (v_add v_int (v_var 3)) va_nil))))
    (vs_cons (vs_set 5 sc_L_tree.nd (v_add (v_comp (osc := defScope s_L_tree) (N := N_L_tree) ["_law_sign"] ([none] : List (Option Nat)) [0] rfl rfl ⟨rfl, by decide +kernel, by decide +kernel, by decide +kernel, rfl, by decide +kernel⟩ rfl (vi_list (v_idx hu (v_var 1) v_int)) (bo_name 0) (fun _ _ _ _ => ⟨(vg_name 0 (show (["_law_sign"] : List Str).Nodup by decide +kernel)), vf_nil, (v_idx hu (v_var 0) v_int)⟩)) (v_lst (va_cons v_str (va_cons v_str (va_cons v_str va_nil))))))
    (vs_cons (vs_if (vt_w (vw_or (vt_cmp (c_eq hu) (v_var 2) v_int) (vw_or1 (vt_cmp (c_eq hu) (v_mod (v_var 4) v_int) v_int)))) (vs_cons (vs_set 6 sc_L_tree.nd (v_idx hu (v_lst (va_cons v_non (va_cons v_str (va_cons (v_sub (v_mod (v_fdiv (v_var 4) v_int) (v_add (v_idx hu (v_var 1) v_int) v_int)) v_int) (va_cons (v_pow v_int v_int) (va_cons (v_neg (v_pow v_int v_int)) va_nil)))))) (v_mod (v_fdiv (v_var 4) v_int) v_int)))
    (vs_one (vs_ret (v_tup (va_cons v_str (va_cons (v_idx hu (v_var 5) (v_mod (v_fdiv (v_var 4) v_int) (v_len m_len (va_cons (v_var 5) va_nil)))) (va_cons (v_var 6) va_nil))))))) vs_nil)
    (vs_cons (vs_set 7 sc_L_tree.nd (v_fn C_r (hr.mono (by omega)) (va_cons (v_var 0) (va_cons (v_var 1) (va_cons (v_sub (v_var 2) v_int) (va_cons (v_add (v_mul v_int (v_var 3)) v_int) va_nil))))))
    (vs_frz 7 (vs_one (vs_ret (v_tup (va_cons (v_idx hu (v_lst (va_cons v_str (va_cons v_str va_nil))) (v_mod (v_fdiv (v_var 4) v_int) v_int)) (va_cons (v_var 7) (va_cons (v_fn C_r (hr.mono (by omega)) (va_cons (v_var 0) (va_cons (v_var 1) (va_cons (v_sub (v_var 2) v_int) (va_cons (v_add (v_mul v_int (v_var 3)) v_int) va_nil))))) va_nil))))))))))))
theorem sc_M_Knows_init : FnScope ps_M_Knows_init ps_M_Knows_init (defScope s_M_Knows_init) := ⟨rfl, rfl, rfl, by decide +kernel, rfl, by decide +kernel, by decide +kernel⟩
theorem ok_M_Knows_init {f : Addr} {dV : Value} {fd : FuncData} (Fn : FunD K "__init__" "Knows.__init__" s_M_Knows_init f dV fd) : FnOk P w K mg base CX0 1 f fd ps_M_Knows_init (spI K ["house", "turn", "inside"] fs_Knows 4) :=
  init_ok (ps := ps_M_Knows_init) (k := 0) Fn sc_M_Knows_init (by decide +kernel) (by decide) (fun cdv A outer s H E F0 H0 o C dx hr => (vi_cons (v_var 1) (vi_cons (v_var 2) (vi_cons (v_var 3) vi_nil))))
theorem sc_M_Shared_init : FnScope ps_M_Shared_init ps_M_Shared_init (defScope s_M_Shared_init) := ⟨rfl, rfl, rfl, by decide +kernel, rfl, by decide +kernel, by decide +kernel⟩
theorem ok_M_Shared_init {f : Addr} {dV : Value} {fd : FuncData} (Fn : FunD K "__init__" "Shared.__init__" s_M_Shared_init f dV fd) (m_list : mg "list" = none) : FnOk P w K mg base CX0 1 f fd ps_M_Shared_init (spI K ["houses", "turn", "inside"] fs_Shared 4) :=
  init_ok (ps := ps_M_Shared_init) (k := 0) Fn sc_M_Shared_init (by decide +kernel) (by decide) (fun cdv A outer s H E F0 H0 o C dx hr => (vi_cons (v_list m_list (va_cons (v_var 1) va_nil)) (vi_cons (v_var 2) (vi_cons (v_var 3) vi_nil))))
theorem sc_law : FnScope N_law ps_law (defScope s_law) := ⟨rfl, rfl, rfl, by decide +kernel, rfl, by decide +kernel, by decide +kernel⟩
theorem ok_law {f : Addr} {fd : FuncData} (Fn : Fun K "law" "law" s_law f fd) (m_isinstance : mg "isinstance" = none) (m_list : mg "list" = none) (C_L_net : Callee P w K mg base 2 "_law_net" 1 φ_L_net) (C_L_object : Callee P w K mg base 14 "_law_object" 1 (φ_L_object 12)) (C_L_right : Callee P w K mg base 14 "_law_right" 4 φ_L_right) (C_L_tale : Callee P w K mg base 3 "_law_tale" 2 φ_L_tale) (C_L_tree : Callee P w K mg base 13 "_law_tree" 4 (φ_L_tree 12)) (D_doubt : DispOk P w K mg base 12 "doubt" 3 (tab_doubt 12)) (D_holds : DispOk P w K mg base 13 "holds" 3 tab_holds) (M_Both_0 : MkOk P w K mg base 1 "Both" ["one", "other"] fs_Both 3 []) (M_Came_1 : MkOk P w K mg base 1 "Came" ["name", "by"] fs_Came 3 [.non]) (M_Either_0 : MkOk P w K mg base 1 "Either" ["one", "other"] fs_Either 3 []) (M_Knows_0 : MkOk P w K mg base 1 "Knows" ["house", "turn", "inside"] fs_Knows 4 []) (W_Sentence : ∃ C, PySem.W.nsIn K mainGlobals "Sentence" = some (some (.ref C)) ∧ mg "Sentence" = some (.ref C) ∧ Mk0 K C) (M_Shared_0 : MkOk P w K mg base 1 "Shared" ["houses", "turn", "inside"] fs_Shared 4 []) (IS_Sentence : ∃ S, mg "Sentence" = some (.ref S) ∧ IsOk K S [("Sentence", true), ("Came", true), ("Both", true), ("Either", true), ("Knows", true), ("Shared", true)]) : FnOk P w K mg base CX0 15 f fd ps_law (spV0 K φ_law 1) :=
  fn_ok (N := N_law) (ps := ps_law) (k := 14) (g := g_law) Fn sc_law (fun cdv A outer s H E F0 hr => let hu := room_u hr; (vs_cons (vs_set 1 sc_law.nd (v_fn C_L_net (hr.mono (by decide)) (va_cons (v_var 0) va_nil)))
    (vs_frz 1 (vs_cons (vs_set 2 sc_law.nd (v_fn C_L_tale (hr.mono (by decide)) (va_cons (v_var 0) (va_cons (v_var 1) va_nil))))
    (vs_cons (vs_set 3 sc_law.nd (v_tup (va_cons (v_idx hu (v_var 2) v_int) (va_cons (v_idx hu (v_var 2) v_int) (va_cons (v_add (v_slX (v_idx hu (v_var 2) v_int) v_int) (v_lst (va_cons (v_tup (va_cons v_int (va_cons v_int (va_cons v_str va_nil)))) va_nil))) va_nil)))))
    (vs_frz 2 (vs_cons (vs_set 4 sc_law.nd (v_fn C_L_tree (hr.mono (by decide)) (va_cons (v_var 0) (va_cons (v_var 2) (va_cons v_int (va_cons v_int va_nil))))))
    (vs_frz 4 (vs_cons (vs_set 5 sc_law.nd (v_fn C_L_object (hr.mono (by decide)) (va_cons (v_var 4) va_nil)))
    (vs_cons (vs_set 6 sc_law.nd (v_tup (va_cons (v_tup (va_cons (v_idx hu (v_var 1) v_int) (va_cons (v_list m_list (va_cons (v_idx hu (v_var 1) v_int) va_nil)) va_nil))) (va_cons (v_tup (va_cons (v_idx hu (v_var 2) v_int) (va_cons (v_list m_list (va_cons (v_idx hu (v_var 2) v_int) va_nil)) (va_cons (v_list m_list (va_cons (v_idx hu (v_var 2) v_int) va_nil)) va_nil)))) va_nil))))
    (vs_cons (vs_for .never rfl (vi_list (v_lst (va_cons (v_idx hu (v_var 6) v_int) (va_cons (v_var 3) (va_cons (v_idx hu (v_var 6) v_int) va_nil))))) (vg_name 7 sc_law.nd)
    (vs_one (vs_if (vt_not (vt_val (v_fn C_L_right (hr.mono (by decide)) (va_cons (v_var 5) (va_cons (v_var 4) (va_cons (v_idx hu (v_var 6) v_int) (va_cons (v_var 7) va_nil))))))) (vs_one (vs_ret v_bl)) vs_nil)))
    (vs_frz 5 (vs_cons (vs_set 7 sc_law.nd (v_lst (va_cons (v_make M_Came_1 (hr.mono (by decide)) (va_cons v_str va_nil)) (va_cons (v_make M_Both_0 (hr.mono (by decide)) (va_cons (v_make M_Came_1 (hr.mono (by decide)) (va_cons v_str va_nil)) (va_cons (v_var 5) va_nil))) (va_cons (v_make M_Either_0 (hr.mono (by decide)) (va_cons (v_var 5) (va_cons (v_make M_Came_1 (hr.mono (by decide)) (va_cons v_str va_nil)) va_nil))) va_nil)))))
    (vs_frz 5 (vs_cons (vs_set 7 sc_law.nd (v_add (v_var 7) (v_lst (va_cons (v_make M_Knows_0 (hr.mono (by decide)) (va_cons v_int (va_cons v_int (va_cons (v_var 5) va_nil)))) (va_cons (v_make M_Shared_0 (hr.mono (by decide)) (va_cons (v_lst (va_cons v_int va_nil)) (va_cons v_int (va_cons (v_var 5) va_nil)))) va_nil)))))
    (vs_frz 7 (vs_cons (vs_for .never rfl (vi_lt (v_var 7)) (vg_name 8 sc_law.nd)
    (vs_one (vs_if (vt_not (vt_val (v_isC m_isinstance IS_Sentence (v_var 8)))) (vs_one (vs_ret v_bl)) vs_nil)))
    (vs_cons (vs_set 9 sc_law.nd (v_new W_Sentence))
    (vs_frz 2 (vs_frz 1 (vs_one (vs_ret (v_and (v_cmp c_isB (v_meth D_holds (hr.mono (by decide)) (v_var 9) (va_cons (v_var 1) (va_cons (v_var 2) va_nil))) v_bl) (v_and (v_cmp (c_eq hu) (v_meth D_doubt (hr.mono (by decide)) (v_var 9) (va_cons (v_var 1) (va_cons (v_var 2) va_nil))) (v_tup (va_cons v_str (va_cons v_str va_nil)))) (v_one (v_cmp (c_eq hu) (v_var 6) (v_tup (va_cons (v_var 1) (va_cons (v_var 2) va_nil)))))))))))))))))))))))))))))
end
noncomputable def cellF (ns : List Int) (i : Nat) : Int := (ns[i]?).getD 0
theorem cell_ok {ns : List Int} {i : Nat} : φ_L_cell_at [.scr (ns.map D.int), .int i] = .ok .fz (.int (cellF ns i)) := by
  unfold cellF
  cases q : ns[i]? with
  | some x =>
    have hi : i < ns.length := (List.getElem?_eq_some_iff.mp q).1
    have := atI_of (xs := ns.map D.int) (i := i) (d := .int x) (by simp [q])
    simp [φ_L_cell_at, runF_eq, ev0, g_L_cell_at, hi, this]
  | none =>
    have hi : ¬ ((i : Int) < ns.length) := by have := List.getElem?_eq_none_iff.mp q; omega
    simp [φ_L_cell_at, runF_eq, ev0, g_L_cell_at, hi]
theorem cell_ok0 {ns : List Int} : φ_L_cell_at [.scr (ns.map D.int), .int 0] = .ok .fz (.int (cellF ns 0)) := cell_ok (i := 0)
theorem cell_ok1 {ns : List Int} : φ_L_cell_at [.scr (ns.map D.int), .int 1] = .ok .fz (.int (cellF ns 1)) := cell_ok (i := 1)
theorem cell_ok2 {ns : List Int} : φ_L_cell_at [.scr (ns.map D.int), .int 2] = .ok .fz (.int (cellF ns 2)) := cell_ok (i := 2)
theorem cell_okI {ns : List Int} {j : Int} {i : Nat} (h : j = i) : φ_L_cell_at [.scr (ns.map D.int), .int j] = .ok .fz (.int (cellF ns i)) := by rw [h]; exact cell_ok

noncomputable def mixF (c k : Int) : Int := match φ_L_mix [.int c, .int k] with
  | .ok _ (.int x) => x
  | _ => 0
theorem mix_ex (c k : Int) (h0 : 0 ≤ k) (h1 : k < 2 ^ 20) : ∃ x, φ_L_mix [.int c, .int k] = .ok .fz (.int x) ∧ 0 ≤ x ∧ x < 2 ^ 31 := by
  have k2 : k * k < 2 ^ 40 := by
    have := Int.mul_le_mul (show k ≤ 2 ^ 20 - 1 by omega) (show k ≤ 2 ^ 20 - 1 by omega) h0 (by decide)
    omega
  have k0 : 0 ≤ k * k := Int.mul_nonneg h0 h0
  have e1 : mulD (.int k) (.int k) = some (.fz, .int (k * k)) := mulD_ok (by omega)
  have e2 : mulD (.int (k * k)) (.int 7919) = some (.fz, .int (k * k * 7919)) := mulD_ok (by omega)
  have e3 : mulD (.int (c % 1000003 + k * k * 7919 + k)) (.int 48271) = some (.fz, .int ((c % 1000003 + k * k * 7919 + k) * 48271)) := mulD_ok (by omega)
  generalize hn : (c % 1000003 + k * k * 7919 + k) * 48271 % 2147483629 = n
  have n0 : 0 ≤ n ∧ n < 2147483629 := by omega
  have e4 : mulD (.int n) (.int n) = some (.fz, .int (n * n)) := mulD_ok (by omega)
  generalize hp : n * n % 2147483587 = p
  have p0 : 0 ≤ p ∧ p < 2147483587 := by omega
  refine ⟨p / 7, ?_, by omega, by omega⟩
  simp [φ_L_mix, runF_eq, ev0, g_L_mix, e1, e2, e3, hn, e4, hp]
theorem mix_ok (c k : Int) (h0 : 0 ≤ k) (h1 : k < 2 ^ 20) : φ_L_mix [.int c, .int k] = .ok .fz (.int (mixF c k)) := by
  obtain ⟨x, e, _⟩ := mix_ex c k h0 h1
  unfold mixF; rw [e]
theorem mix_nn (c k : Int) (h0 : 0 ≤ k) (h1 : k < 2 ^ 20) : 0 ≤ mixF c k ∧ mixF c k < 2 ^ 31 := by
  obtain ⟨x, e, h⟩ := mix_ex c k h0 h1
  unfold mixF; rw [e]; exact h

noncomputable abbrev Path := Nat × Nat × Option Int
noncomputable def optD : Option Int → D
  | none => .non
  | some m => .int m
noncomputable def pathD (p : Path) : D := .tup [.int p.1, .int p.2.1, optD p.2.2]
noncomputable def pairD (p : Path) : D := .tup [.int p.1, .int p.2.1]
noncomputable def ends (p : Path) : Nat × Nat := (p.1, p.2.1)
structure NetOk (n : Nat) (ps : List Path) : Prop where
  n1 : 1 ≤ n
  n8 : n ≤ 8
  s : ∀ p ∈ ps, p.1 < n
  g : ∀ p ∈ ps, p.2.1 < n
  ne : ∀ p ∈ ps, p.1 ≠ p.2.1
  m : ∀ p ∈ ps, ∀ m, p.2.2 = some m → 1 ≤ m ∧ m ≤ 10 ^ 60
  nd : (ps.map ends).Nodup
theorem emod_nat (a : Int) {n : Nat} (h : 0 < n) : ∃ s : Nat, a % (n : Int) = s ∧ s < n := by
  have h1 := Int.emod_nonneg a (b := n) (by omega)
  have h2 := Int.emod_lt_of_pos a (b := n) (by omega)
  exact ⟨(a % n).toNat, by omega, by omega⟩
theorem pair_mem {s g : Nat} {ps : List Path} : D.tup [.int s, .int g] ∈ ps.map pairD ↔ (s, g) ∈ ps.map ends := by
  simp only [List.mem_map, pairD, ends]
  constructor
  · rintro ⟨p, hp, e⟩; simp at e; exact ⟨p, hp, by simp; omega⟩
  · rintro ⟨p, hp, e⟩; simp at e; exact ⟨p, hp, by simp; omega⟩
theorem NetOk.add {n : Nat} {ps : List Path} (h : NetOk n ps) {s g : Nat} {o : Option Int} (hs : s < n) (hg : g < n) (hne : s ≠ g) (hm : ∀ m, o = some m → 1 ≤ m ∧ m ≤ 10 ^ 60) (hn : (s, g) ∉ ps.map ends) : NetOk n (ps ++ [(s, g, o)]) := by
  have spl : ∀ {P : Path → Prop}, (∀ p ∈ ps, P p) → P (s, g, o) → ∀ p ∈ ps ++ [(s, g, o)], P p := fun h1 h2 p hp => by
    rcases List.mem_append.1 hp with hp | hp
    · exact h1 p hp
    · simp at hp; subst hp; exact h2
  refine ⟨h.n1, h.n8, spl h.s hs, spl h.g hg, spl h.ne hne, spl h.m hm, ?_⟩
  rw [List.map_append, List.nodup_append]
  refine ⟨h.nd, by simp, fun x hx y hy => ?_⟩
  simp [ends] at hy
  subst hy
  rintro rfl
  exact hn hx
theorem NetOk.reverse {n : Nat} {ps : List Path} (h : NetOk n ps) : NetOk n ps.reverse :=
  ⟨h.n1, h.n8, fun p hp => h.s p (by simpa using hp), fun p hp => h.g p (by simpa using hp), fun p hp => h.ne p (by simpa using hp), fun p hp => h.m p (by simpa using hp), by rw [List.map_reverse]; exact (List.reverse_perm _).nodup_iff.2 h.nd⟩

noncomputable def netD (n : Nat) (ps : List Path) : D := .tup [.int n, .lst (ps.map pathD)]
@[simp] theorem optD_n : optD none = .non := (rfl)
@[simp] theorem optD_s {m : Int} : optD (some m) = .int m := (rfl)
theorem pick5 (i a b : Int) (h0 : 0 ≤ i) (h1 : i < 5) (ha : 1 ≤ a ∧ a ≤ 10 ^ 60) (hb : 1 ≤ b ∧ b ≤ 10 ^ 60) : ∃ o : Option Int, (∀ m, o = some m → 1 ≤ m ∧ m ≤ 10 ^ 60) ∧ atI [.non, .int 1, .int 2, .int a, .int b] i = some (optD o) := by
  have : i = 0 ∨ i = 1 ∨ i = 2 ∨ i = 3 ∨ i = 4 := by (clear hb ha; omega)
  rcases this with rfl | rfl | rfl | rfl | rfl
  · exact ⟨none, by simp, by simp [optD]⟩
  · exact ⟨some 1, by rintro m ⟨⟩; decide, by simp [optD]⟩
  · exact ⟨some 2, by rintro m ⟨⟩; decide, by simp [optD]⟩
  · exact ⟨some a, by rintro m ⟨⟩; exact ha, by simp [optD]⟩
  · exact ⟨some b, by rintro m ⟨⟩; exact hb, by rw [show (4 : Int) = ((4 : Nat) : Int) from rfl]; exact atI_of rfl⟩
noncomputable abbrev evN (S : List D) (num : Int) (n : Nat) (ps : List Path) (l : Ev) : Ev := some (.fz, .scr S) :: some (.fz, .int num) :: some (.fz, .int n) :: some (.ow, .lst (ps.map pathD)) :: l
noncomputable def Below (s g : Nat) (ps : List Path) : Prop := ∀ p ∈ ps, p.1 < s ∨ (p.1 = s ∧ p.2.1 < g)
noncomputable def InvN1 (ns : List Int) (num : Int) (n s : Nat) (xs : List Nat) (ev : Ev) : Prop := ∃ ps x5 x6 x7 x8, ev = evN (ns.map D.int) num n ps [some (.fz, .int s), x5, x6, x7, x8] ∧ NetOk n ps ∧ ∃ g, xs = List.range' g (n - g) ∧ g ≤ n ∧ Below s g ps ∧ ps.length ≤ s * n + g
noncomputable def InvN2 (ns : List Int) (num : Int) (n : Nat) (xs : List Nat) (ev : Ev) : Prop := ∃ ps x4 x5 x6 x7 x8, ev = evN (ns.map D.int) num n ps [x4, x5, x6, x7, x8] ∧ NetOk n ps ∧ ∃ s, xs = List.range' s (n - s) ∧ s ≤ n ∧ Below s 0 ps ∧ ps.length ≤ s * n
theorem range_eq' (n : Nat) : List.range n = List.range' 0 (n - 0) := by rw [List.range_eq_range']; rfl
theorem range'_cons {s n x : Nat} {xs : List Nat} (h : x :: xs = List.range' s (n - s)) : x = s ∧ s < n ∧ xs = List.range' (s + 1) (n - (s + 1)) := by
  by_cases hs : s < n
  · rw [show n - s = (n - (s + 1)) + 1 by omega, List.range'_succ] at h
    cases h
    exact ⟨rfl, hs, rfl⟩
  · rw [show n - s = 0 by omega] at h; simp at h
theorem net_j1 {ns : List Int} {num dr : Int} {n s g : Nat} {xs : List Nat} {ps : List Path} {x7 x8 : Option (Kd × D)} {h : Ev → Fl} {Q : Fl → Prop} (ok : NetOk n ps) (hs : s < n) (hg : g < n) (hb : Below s g ps) (hl : ps.length ≤ s * n + g) (hx : xs = List.range' (g + 1) (n - (g + 1))) (hne : s ≠ g) (hd : 0 ≤ dr ∧ dr < 2 ^ 31) (h6 : dr % 6 ≠ 0) :
    Wp (g_L_net_j1 (evN (ns.map D.int) num n ps [some (.fz, .int s), some (.fz, .int g), some (.fz, .int dr), x7, x8])) (loopQ (InvN1 ns num n s xs) h Q) := by
  obtain ⟨o, ho, eo⟩ := pick5 (dr % 6 - 1) (1 + dr / 6 % 6) (10 ^ 50 + dr) (by (clear hd hne hl hg hs; omega)) (by (clear h6 hd hne hl hg hs; omega)) (by (clear h6 hd hne hl hg hs; omega)) (by (clear h6 hne hl hg hs; omega))
  simp at eo
  have n8 := ok.n8
  have hsn : s * n ≤ 7 * 8 := Nat.mul_le_mul (by (clear h6 hd hne hl hg; omega)) n8
  have hL : ps.length < LIM := by simp [LIM]; (clear h6 hd hne hs; omega)
  simp (disch := first | omega | rfl) [g_L_net_j1, eo, hL]
  have h1 : List.map pathD ps ++ [D.tup [.int s, .int g, optD o]] = (ps ++ [(s, g, o)]).map pathD := by simp [pathD]
  rw [h1]
  refine ⟨ps ++ [(s, g, o)], _, _, _, _, rfl, ok.add hs hg hne ho (fun z => ?_), g + 1, hx, by (clear hL hsn n8 h6 hd hne hl hs; omega), fun p hp => ?_, by simp; (clear hL hsn n8 h6 hd hne hg hs; omega)⟩
  · obtain ⟨p, hp, e⟩ := List.mem_map.1 z
    simp [ends] at e
    have := hb p hp
    (clear hL hsn n8 h6 hd hne hl hg hs; omega)
  · rcases List.mem_append.1 hp with hp | hp
    · have := hb p hp; (clear hL hsn n8 h6 hd hne hl hg hs; omega)
    · simp at hp; subst hp; simp
theorem net_b1 {ns : List Int} {num : Int} {n s g : Nat} {xs : List Nat} {ps : List Path} {x6 x7 x8 : Option (Kd × D)} {h : Ev → Fl} {Q : Fl → Prop} (ok : NetOk n ps) (hs : s < n) (hg : g < n) (hb : Below s g ps) (hl : ps.length ≤ s * n + g) (hx : xs = List.range' (g + 1) (n - (g + 1))) :
    Wp (g_L_net_b1 (evN (ns.map D.int) num n ps [some (.fz, .int s), some (.fz, .int g), x6, x7, x8])) (loopQ (InvN1 ns num n s xs) h Q) := by
  have hc := cell_ok1 (ns := ns)
  have n8 := ok.n8
  have hm := mix_ok (cellF ns 1) (10 * s + g) (by (clear n8 hl hg hs; omega)) (by (clear hl; omega))
  have hd := mix_nn (cellF ns 1) (10 * s + g) (by (clear n8 hl hg hs; omega)) (by (clear hl; omega))
  generalize mixF (cellF ns 1) (10 * s + g) = dr at *
  have skip : ∀ x6 x7 x8, InvN1 ns num n s xs (evN (ns.map D.int) num n ps [some (.fz, .int s), some (.fz, .int g), x6, x7, x8]) := fun x6 x7 x8 => ⟨ps, _, _, _, _, rfl, ok, g + 1, hx, by (clear hd n8 hl hs; omega), fun p hp => by have := hb p hp; (clear hd n8 hl hg hs; omega), by (clear hd n8 hg hs; omega)⟩
  simp (disch := first | omega | rfl) [g_L_net_b1, hc, hm]
  by_cases hne : s = g
  · subst hne
    refine wp_if ?_ ?_ <;> intro hq <;> simp (disch := first | omega | rfl) []
    · exact skip _ _ _
    · simp at hq
  · have hne' : ¬ ((s : Int) = g) := by (clear hd n8 hl hg hs; omega)
    refine wp_if ?_ ?_ <;> intro hq <;> simp (disch := first | omega | rfl) []
    · exact skip _ _ _
    · simp at hq
      exact net_j1 ok hs hg hb hl hx hne hd (by (clear hne' hne hd n8 hl hg hs; omega))
theorem net_ok (ns : List Int) : ∃ n ps, NetOk n ps ∧ ps.length ≤ 64 ∧ φ_L_net [.scr (ns.map D.int)] = .ok .fz (netD n ps) := by
  have hc := cell_ok0 (ns := ns)
  have hm := mix_ok (cellF ns 0) 1 (by decide) (by decide)
  have hnn := mix_nn (cellF ns 0) 1 (by decide) (by decide)
  refine run_el (φ_L_net [.scr (ns.map D.int)]) rfl ?_
  generalize mixF (cellF ns 0) 1 = num at *
  generalize cellF ns 0 = c0 at *
  have j4 : ∀ (n : Nat) (Q : Fl → Prop), 1 ≤ n → n ≤ 8 → Q = runQ (fun x => ∃ n ps, NetOk n ps ∧ ps.length ≤ 64 ∧ x = .ok .fz (netD n ps)) → Wp (g_L_net_j4 [some (.fz, .scr (ns.map D.int)), some (.fz, .int num), some (.fz, .int n), none, none, none, none, none, none]) Q := fun n Q n1 n8 hQ => by
    simp (disch := first | omega | rfl) [g_L_net_j4]
    rw [rangeD_eq, range_eq']
    refine wp_forM (InvN2 ns num n) ?_ ?_ ⟨[], none, none, none, none, none, rfl, ⟨n1, n8, by simp, by simp, by simp, by simp, by simp⟩, 0, rfl, by (clear n8 n1 hnn; omega), by simp [Below], by simp⟩
    · rintro s xs _ _ ⟨ps, x4, x5, x6, x7, x8, rfl, ok, s', hxs, hs', hb, hl⟩
      obtain ⟨rfl, hs, hx'⟩ := range'_cons hxs
      refine ⟨_, rfl, ?_⟩
      simp (disch := first | omega | rfl) [g_L_net_b2]
      rw [rangeD_eq, range_eq']
      refine wp_forM1 (InvN1 ns num n s) ?_ ?_ ⟨ps, _, _, _, _, rfl, ok, 0, rfl, by (clear hs hl hs' n8 n1 hnn; omega), hb, by (clear hs hs' n8 n1 hnn; omega)⟩
      · rintro g ys _ _ ⟨ps, x5, x6, x7, x8, rfl, ok, g', hys, hg', hb, hl⟩
        obtain ⟨rfl, hg, hy'⟩ := range'_cons hys
        refine ⟨_, rfl, ?_⟩
        simp only [Int.zero_add]
        exact net_b1 (x6 := x6) (x7 := x7) (x8 := x8) ok hs hg hb hl hy'
      · rintro _ ⟨ps, x5, x6, x7, x8, rfl, ok, g', hys, hg', hb, hl⟩
        have : g' = n := by
          have := congrArg List.length hys
          simp at this; (clear hl hs hs' n8 n1 hnn; omega)
        subst this
        refine ⟨ps, _, _, _, _, _, rfl, ok, s + 1, hx', by (clear hl hg' hs' n8 n1 hnn; omega), fun p hp => ?_, by rw [Nat.succ_mul]; (clear hg' hs hs' n8 n1 hnn; omega)⟩
        have h1 := hb p hp
        have h2 := ok.g p hp
        (clear h2 hl hg' hs hs' n8 n1 hnn; omega)
    · rintro _ ⟨ps, x4, x5, x6, x7, x8, rfl, ok, s', hxs, hs', hb, hl⟩
      have hlen : ps.length ≤ 64 := Nat.le_trans hl (by have := Nat.mul_le_mul (show s' ≤ 8 by (clear hl n1 hnn; omega)) n8; (clear hl hs' n8 n1 hnn; omega))
      simp (disch := first | omega | rfl) [g_L_net_j3]
      refine wp_if ?_ ?_ <;> intro hq <;> simp (disch := first | omega | rfl) [g_L_net_j2]
      · subst hQ
        simp (disch := first | omega | rfl) []
        refine ⟨n, ps.reverse, ok.reverse, by simpa using hlen, ?_⟩
        simp [netD]
      · subst hQ
        simp (disch := first | omega | rfl) []
        exact ⟨n, ps, ok, hlen, rfl⟩
  obtain ⟨a, ea, ha⟩ := emod_nat c0 (n := 4) (by decide)
  have ea : (1 : Int) + c0 % 4 = ((1 + a : Nat) : Int) := by rw [show c0 % 4 = (a : Int) from ea]; (clear ha ea hnn; omega)
  obtain ⟨b, eb, hb⟩ := emod_nat (num / 64) (n := 4) (by decide)
  have eb : (5 : Int) + num / 64 % 4 = ((5 + b : Nat) : Int) := by rw [show num / 64 % 4 = (b : Int) from eb]; (clear hb eb ea ha hnn; omega)
  simp (disch := first | omega | rfl) [ev0, g_L_net, hc, hm]
  rw [ea]
  refine wp_if ?_ ?_ <;> intro hq <;> simp (disch := first | omega | rfl) [g_L_net_j5]
  · rw [eb]
    refine wp_if ?_ ?_ <;> intro hq2 <;> simp (disch := first | omega | rfl) []
    · exact j4 2 _ (by (clear eb hb ea ha hnn; omega)) (by (clear eb hb ea ha hnn; omega)) rfl
    · exact j4 (5 + b) _ (by (clear eb hb ea ha hnn; omega)) (by (clear eb hb ea ha hnn; omega)) rfl
  · refine wp_if ?_ ?_ <;> intro hq2 <;> simp (disch := first | omega | rfl) []
    · exact j4 2 _ (by (clear eb hb ea ha hnn; omega)) (by (clear eb hb ea ha hnn; omega)) rfl
    · exact j4 (1 + a) _ (by (clear eb hb ea ha hnn; omega)) (by (clear eb hb ea ha hnn; omega)) rfl

noncomputable abbrev Run := Nat × Nat × Nat × Nat
noncomputable abbrev Sign := Nat × Nat × Str
noncomputable def runD (r : Run) : D := .tup [.int r.1, .int r.2.1, .int r.2.2.1, .int r.2.2.2]
noncomputable def signD (x : Sign) : D := .tup [.int x.1, .int x.2.1, .str x.2.2]
noncomputable def taleD (last : Nat) (rs : List Run) (ss : List Sign) : D := .tup [.int last, .lst (rs.map runD), .lst (ss.map signD)]
noncomputable def rkey (r : Run) : Nat × Nat × Nat := (r.1, r.2.1, r.2.2.1)
noncomputable def nmOk (x : Str) : Bool := PyData.strOk x && decide (x.length ≤ 12) && decide (x ≠ Str.ofString "more")
structure SignsOk (n last : Nat) (ss : List Sign) : Prop where
  h : ∀ x ∈ ss, x.1 < n
  t : ∀ x ∈ ss, x.2.1 ≤ last
  nm : ∀ x ∈ ss, nmOk x.2.2 = true
  nd : ss.Nodup
structure RunsOk (ps : List Path) (last : Nat) (rs : List Run) : Prop where
  path : ∀ r ∈ rs, ∃ o, (r.1, r.2.1, o) ∈ ps ∧ ∀ m, o = some m → (r.2.2.2 : Int) ≤ r.2.2.1 + m
  turn : ∀ r ∈ rs, r.2.2.1 < r.2.2.2 ∧ r.2.2.2 ≤ last
  nd : (rs.map rkey).Nodup
structure GoodT (n : Nat) (ps : List Path) (last : Nat) (rs : List Run) (ss : List Sign) : Prop where
  runs : RunsOk ps last rs
  due : ∀ s g m (l : Nat), (s, g, some m) ∈ ps → (l : Int) + m ≤ last → ∃ c, (s, g, l, c) ∈ rs
  signs : SignsOk n last ss
theorem signs_pl {n last : Nat} {ss : List Sign} (h : SignsOk n last ss) : plL 59 (ss.map signD) = true := plL_iff.2 fun d hd => by
  obtain ⟨x, hx, rfl⟩ := List.mem_map.1 hd
  have := h.nm x hx
  simp [nmOk] at this
  simp [signD, pl, plL, this.1.1]
theorem signD_inj {x y : Sign} : signD x = signD y ↔ x = y := by
  obtain ⟨a, b, c⟩ := x
  obtain ⟨a', b', c'⟩ := y
  simp [signD]
  constructor
  · rintro ⟨h1, h2, h3⟩; exact ⟨by (clear h2; omega), by (clear h1; omega), h3⟩
  · rintro ⟨h1, h2, h3⟩; exact ⟨by (clear h2; omega), by (clear h1; omega), h3⟩
theorem signD_mem {x : Sign} {ss : List Sign} : signD x ∈ ss.map signD ↔ x ∈ ss := by
  simp only [List.mem_map, signD_inj]
  exact ⟨fun ⟨a, h, e⟩ => e ▸ h, fun h => ⟨x, h, rfl⟩⟩
noncomputable def cA : Str := Str.ofString "a"
noncomputable def cB : Str := Str.ofString "b"
noncomputable def cC : Str := Str.ofString "c"
theorem nm_facts : ∀ a : Fin 12, (Txt.mul cA (a : Nat)).length ≤ 12 ∧ (Txt.mul cA (11 - (a : Nat) : Int)).length ≤ 12 ∧ (Txt.mul cA (a : Nat) ++ cB).length ≤ 13 ∧ (Txt.mul cA (a : Nat) ++ cC).length ≤ 13 ∧
    nmOk (Txt.mul cA (a : Nat) ++ cB ++ Txt.mul cA (11 - (a : Nat) : Int)) = true ∧ nmOk (Txt.mul cA (a : Nat) ++ cC ++ Txt.mul cA (11 - (a : Nat) : Int)) = true := by decide +kernel
theorem pickN (i : Int) (a b c d : Str) (h0 : 0 ≤ i) (h1 : i < 4) (ha : nmOk a = true) (hb : nmOk b = true) (hc : nmOk c = true) (hd : nmOk d = true) : ∃ x : Str, nmOk x = true ∧ atI [D.str a, D.str b, D.str c, D.str d] i = some (D.str x) := by
  have : i = 0 ∨ i = 1 ∨ i = 2 ∨ i = 3 := by omega
  rcases this with rfl | rfl | rfl | rfl
  · exact ⟨a, ha, by simp⟩
  · exact ⟨b, hb, by simp⟩
  · exact ⟨c, hc, by simp⟩
  · exact ⟨d, hd, by simp⟩
noncomputable def InvS (ns : List Int) (n last : Nat) (net : D) (a b c d : Str) (xs : List Nat) (ev : Ev) : Prop := ∃ ss x4 x6 x7 x8, ev = [some (.fz, .scr (ns.map D.int)), some (.fz, net), some (.fz, .int last), some (.ow, .lst (ss.map signD)), x4, some (.ow, .lst [.str a, .str b, .str c, .str d]), x6, x7, x8] ∧ SignsOk n last ss ∧ ss.length + xs.length ≤ 4
theorem signs_j1 {ns : List Int} {n last : Nat} {ps : List Path} {a b c d : Str} {x4 : Option (Kd × D)} (hn : 0 < n) (hl : last < 1000) (ha : nmOk a = true) (hb : nmOk b = true) (hc : nmOk c = true) (hd : nmOk d = true) :
    Wp (g_L_signs_j1 [some (.fz, .scr (ns.map D.int)), some (.fz, netD n ps), some (.fz, .int last), some (.ow, .lst []), x4, some (.ow, .lst [.str a, .str b, .str c, .str d]), none, none, none]) (runQ fun x => ∃ ss, SignsOk n last ss ∧ ss.length ≤ 4 ∧ x = .ok .ow (.lst (ss.map signD))) := by
  have hc2 := cell_ok2 (ns := ns)
  have hm := mix_ok (cellF ns 2) 2 (by decide) (by decide)
  have e0 : idxD (netD n ps) (.int 0) = some (.fz, .int n) := by simp [netD]
  simp (disch := first | omega | rfl) [g_L_signs_j1, hc2, hm]
  rw [rangeD_eq]
  refine wp_forM (InvS ns n last (netD n ps) a b c d) ?_ ?_ ⟨[], _, _, _, _, rfl, ⟨by simp, by simp, by simp, by simp⟩, by simp; (clear hl hn; omega)⟩
  · rintro k xs _ ⟨p2, hp2⟩ ⟨ss, x4, x6, x7, x8, rfl, so, hlen⟩
    have hk : k < 5 := by
      have : k ∈ List.range (mixF (cellF ns 2) 2 % 5).toNat := by rw [hp2]; simp
      simp at this; (clear hlen hl hn; omega)
    simp only [List.length_cons] at hlen
    refine ⟨_, rfl, ?_⟩
    simp only [Int.zero_add]
    have hck := cell_okI (ns := ns) (j := 3 + k) (i := 3 + k) (by simp)
    have hmk := mix_ok (cellF ns (3 + k)) (500 + k) (by (clear hk hlen hl hn; omega)) (by (clear hlen hl hn; omega))
    have hnk := mix_nn (cellF ns (3 + k)) (500 + k) (by (clear hk hlen hl hn; omega)) (by (clear hlen hl hn; omega))
    generalize mixF (cellF ns (3 + k)) (500 + k) = nu at *
    obtain ⟨h, eh, hh⟩ := emod_nat nu hn
    obtain ⟨t, et, ht⟩ := emod_nat (nu / 5) (n := last + 1) (by (clear hh eh hnk hk hlen hl hn; omega))
    have et : nu / 5 % ((last : Int) + 1) = t := by rw [← et]; simp
    obtain ⟨x, hx, ex⟩ := pickN (nu / 300 % 4) a b c d (by (clear et ht hh eh hnk hk hlen hl hn; omega)) (by (clear et ht hh eh hnk hk hlen hl hn; omega)) ha hb hc hd
    have hx2 : PyData.strOk x = true := by simp [nmOk] at hx; exact hx.1.1
    have hin : notInD (.tup [.int h, .int t, .str x]) (.lst (ss.map signD)) = some (.fz, .bl (decide (signD (h, t, x) ∉ ss.map signD))) := notInD_pl rfl (by simp [pl, plL, hx2]) (plL_ups (signs_pl so))
    have hL : ss.length < LIM := by simp [LIM]; (clear et ht hh eh hnk hk hl hn; omega)
    simp (disch := first | omega | rfl) [g_L_signs_b1, hck, hmk, e0, eh, et, ex, hin]
    refine wp_if1 ?_ ?_ <;> intro hq <;> simp (disch := first | omega | rfl) [hL]
    · have hq : (h, t, x) ∉ ss := by simpa [signD_mem] using hq
      have h1 : ss.map signD ++ [D.tup [.int h, .int t, .str x]] = (ss ++ [(h, t, x)]).map signD := by simp [signD]
      rw [h1]
      refine ⟨ss ++ [(h, t, x)], _, _, _, _, rfl, ⟨fun y hy => ?_, fun y hy => ?_, fun y hy => ?_, ?_⟩, by simp; (clear hL et ht hh eh hnk hk hl hn; omega)⟩
      · rcases List.mem_append.1 hy with hy | hy
        · exact so.h y hy
        · simp at hy; subst hy; exact hh
      · rcases List.mem_append.1 hy with hy | hy
        · exact so.t y hy
        · simp at hy; subst hy; show t ≤ last; (clear hL et hh eh hnk hk hlen hl hn; omega)
      · rcases List.mem_append.1 hy with hy | hy
        · exact so.nm y hy
        · simp at hy; subst hy; exact hx
      · rw [List.nodup_append]
        exact ⟨so.nd, by simp, fun y hy z hz => by simp at hz; subst hz; rintro rfl; exact hq hy⟩
    · exact ⟨ss, _, _, _, _, rfl, so, by (clear hL et ht hh eh hnk hk hl hn; omega)⟩
  · rintro _ ⟨ss, x4, x6, x7, x8, rfl, so, hlen⟩
    simp (disch := first | omega | rfl) []
    exact ⟨ss, so, by simpa using hlen, rfl⟩
theorem signs_ok (ns : List Int) {n last : Nat} {ps : List Path} (hn : 0 < n) (hl : last < 1000) : ∃ ss, SignsOk n last ss ∧ ss.length ≤ 4 ∧ φ_L_signs [.scr (ns.map D.int), netD n ps, .int last] = .ok .ow (.lst (ss.map signD)) := by
  refine run_el (φ_L_signs [.scr (ns.map D.int), netD n ps, .int last]) rfl ?_
  have hc2 := cell_ok2 (ns := ns)
  obtain ⟨a, ea, ha⟩ := emod_nat (cellF ns 2 / 25) (n := 12) (by decide)
  have ea : cellF ns 2 / 25 % 12 = (a : Int) := ea
  obtain ⟨f1, f2, f3, f4, f5, f6⟩ := nm_facts ⟨a, ha⟩
  dsimp only at f1 f2 f3 f4 f5 f6
  have lA : cA.length = 1 := by decide +kernel
  have lB : cB.length = 1 := by decide +kernel
  have lC : cC.length = 1 := by decide +kernel
  have sA : Str.ofString "a" = cA := rfl
  have sB : Str.ofString "b" = cB := rfl
  have sC : Str.ofString "c" = cC := rfl
  simp (disch := first | omega | rfl) [ev0, g_L_signs, hc2, ea, sA, sB, sC]
  refine wp_if ?_ ?_ <;> intro hq
  · have m1 : mulD (.str cA) (.int a) = some (.fz, .str (Txt.mul cA a)) := mulD_str (by (clear lC lB f4 f3 f2 f1 ea ha hl hn; omega))
    have m2 : mulD (.str cA) (.int (11 - a)) = some (.fz, .str (Txt.mul cA (11 - a))) := mulD_str (by (clear lC lB f4 f3 f2 f1 ea ha hl hn; omega))
    have m3 : mulD (.str cA) (.int 11) = some (.fz, .str (Txt.mul cA 11)) := mulD_str (by (clear lC lB f4 f3 f2 f1 ea ha hl hn; omega))
    simp (disch := first | omega | rfl) [m1, m2, m3, sA, sB, sC, hc2]
    exact signs_j1 hn hl (by decide +kernel) f5 f6 (by decide +kernel)
  · simp (disch := first | omega | rfl) []
    exact signs_j1 hn hl (by decide +kernel) (by decide +kernel) (by decide +kernel) (by decide +kernel)
noncomputable def KeysB (ps1 : List Path) (p : Path) (l : Nat) (rs : List Run) : Prop := ∀ r ∈ rs, (r.1, r.2.1) ∈ ps1.map ends ∨ ((r.1, r.2.1) = ends p ∧ r.2.2.1 < l)
noncomputable abbrev evT (S : List D) (net : D) (last : Nat) (rs : List Run) (k : Nat) (l : Ev) : Ev := some (.fz, .scr S) :: some (.fz, net) :: some (.fz, .int last) :: some (.ow, .lst (rs.map runD)) :: some (.fz, .int k) :: l
noncomputable def DueB (ps1 : List Path) (last : Nat) (rs : List Run) : Prop := ∀ s g m (l : Nat), (s, g, some m) ∈ ps1 → (l : Int) + m ≤ last → ∃ c, (s, g, l, c) ∈ rs
noncomputable def InvT1 (ns : List Int) (net : D) (ps : List Path) (last : Nat) (ps1 : List Path) (p : Path) (xs : List Nat) (ev : Ev) : Prop := ∃ rs k x8 x9 x10, ev = evT (ns.map D.int) net last rs k [some (.fz, .int p.1), some (.fz, .int p.2.1), some (.fz, optD p.2.2), x8, x9, x10] ∧ RunsOk ps last rs ∧ DueB ps1 last rs ∧
  ∃ l, xs = List.range' l (last - l) ∧ l ≤ last ∧ KeysB ps1 p l rs ∧ k = ps1.length * last + l ∧ rs.length ≤ k ∧ ∀ m (l' : Nat), p.2.2 = some m → l' < l → (l' : Int) + m ≤ last → ∃ c, (p.1, p.2.1, l', c) ∈ rs
noncomputable def InvT2 (ns : List Int) (net : D) (ps : List Path) (last : Nat) (xs : List Path) (ev : Ev) : Prop := ∃ rs k ps1 x5 x6 x7 x8 x9 x10, ev = evT (ns.map D.int) net last rs k [x5, x6, x7, x8, x9, x10] ∧ ps = ps1 ++ xs ∧ RunsOk ps last rs ∧ DueB ps1 last rs ∧ (∀ r ∈ rs, (r.1, r.2.1) ∈ ps1.map ends) ∧ k = ps1.length * last ∧ rs.length ≤ k
theorem tale_j1 {ns : List Int} {net : D} {ps ps1 : List Path} {p : Path} {last k l c : Nat} {rs : List Run} {xs : List Nat} {x9 : Option (Kd × D)} {h : Ev → Fl} {Q : Fl → Prop} (hp : p ∈ ps) (hnot : ends p ∉ ps1.map ends) (hl : l < last) (hk : k = ps1.length * last + l + 1) (hk2 : k ≤ 10000) (ro : RunsOk ps last rs) (du : DueB ps1 last rs) (kb : KeysB ps1 p l rs) (hx : xs = List.range' (l + 1) (last - (l + 1))) (hlen : rs.length < k)
    (hd : ∀ m (l' : Nat), p.2.2 = some m → l' < l → (l' : Int) + m ≤ last → ∃ c, (p.1, p.2.1, l', c) ∈ rs) (hlc : l < c) (hm : ∀ m, p.2.2 = some m → (c : Int) ≤ l + m) :
    Wp (g_L_tale_j1 (evT (ns.map D.int) net last rs k [some (.fz, .int p.1), some (.fz, .int p.2.1), some (.fz, optD p.2.2), some (.fz, .int l), x9, some (.fz, .int c)])) (loopQ (InvT1 ns net ps last ps1 p xs) h Q) := by
  have kb' : ∀ r ∈ rs, (r.1, r.2.1) ∈ ps1.map ends ∨ ((r.1, r.2.1) = ends p ∧ r.2.2.1 < l + 1) := fun r hr => by
    rcases kb r hr with z | z
    · exact .inl z
    · exact .inr ⟨z.1, by (clear hlc hlen hk2 hk hl; omega)⟩
  have hL : rs.length < LIM := by simp [LIM]; (clear hlc hk hl; omega)
  simp (disch := first | omega | rfl) [g_L_tale_j1]
  refine wp_if1 ?_ ?_ <;> intro hq <;> simp (disch := first | omega | rfl) [hL]
  · simp at hq
    have h1 : rs.map runD ++ [D.tup [.int p.1, .int p.2.1, .int l, .int c]] = (rs ++ [(p.1, p.2.1, l, c)]).map runD := by simp [runD]
    rw [h1]
    refine ⟨rs ++ [(p.1, p.2.1, l, c)], k, _, _, _, rfl, ⟨fun r hr => ?_, fun r hr => ?_, ?_⟩, fun s g m l' h1 h2 => ?_, l + 1, hx, by (clear hq hL hlc hlen hk2 hk; omega), fun r hr => ?_, by (clear hq hL hlc hlen hk2 hl; omega), by simp; (clear hq hL hlc hk2 hk hl; omega), fun m l' e1 h2 h3 => ?_⟩
    · rcases List.mem_append.1 hr with hr | hr
      · exact ro.path r hr
      · simp at hr; subst hr; exact ⟨p.2.2, hp, hm⟩
    · rcases List.mem_append.1 hr with hr | hr
      · exact ro.turn r hr
      · simp at hr; subst hr; exact ⟨hlc, by show c ≤ last; (clear hL hlc hlen hk2 hk hl; omega)⟩
    · rw [List.map_append, List.nodup_append]
      refine ⟨ro.nd, by simp, fun a ha b hb => ?_⟩
      simp at hb; subst hb
      obtain ⟨r, hr, rfl⟩ := List.mem_map.1 ha
      intro e
      simp [rkey] at e
      rcases kb r hr with z | z
      · refine hnot ?_
        have : (r.1, r.2.1) = ends p := by simp [ends, e.1, e.2.1]
        rw [← this]; exact z
      · (clear hq hL hlc hlen hk2 hk hl; omega)
    · obtain ⟨c', hc'⟩ := du s g m l' h1 h2
      exact ⟨c', by simp [hc']⟩
    · rcases List.mem_append.1 hr with hr | hr
      · exact kb' r hr
      · simp at hr; subst hr; exact .inr ⟨rfl, by show l < l + 1; (clear hq hL hlc hlen hk2 hk hl; omega)⟩
    · by_cases e : l' = l
      · subst e; exact ⟨c, by simp⟩
      · obtain ⟨c', hc'⟩ := hd m l' e1 (by (clear h3 hq hL hlc hlen hk2 hk hl; omega)) h3
        exact ⟨c', by simp [hc']⟩
  · simp at hq
    refine ⟨rs, k, _, _, _, rfl, ro, du, l + 1, hx, by (clear hq hL hlc hlen hk2 hk; omega), kb', by (clear hq hL hlc hlen hk2 hl; omega), by (clear hq hL hlc hk2 hk hl; omega), fun m l' e1 h2 h3 => ?_⟩
    by_cases e : l' = l
    · subst e; have := hm m e1; (clear h2 hlc hk hl hL hlen hk2; omega)
    · exact hd m l' e1 (by (clear h3 hq hL hlc hlen hk2 hk hl; omega)) h3
theorem tale_b1 {ns : List Int} {net : D} {ps ps1 : List Path} {p : Path} {last k l : Nat} {rs : List Run} {xs : List Nat} {x9 x10 : Option (Kd × D)} {h : Ev → Fl} {Q : Fl → Prop} (hp : p ∈ ps) (hpm : ∀ m, p.2.2 = some m → 1 ≤ m) (hnot : ends p ∉ ps1.map ends) (hl : l < last) (hk : k = ps1.length * last + l) (hk2 : k + 1 ≤ 10000) (ro : RunsOk ps last rs) (du : DueB ps1 last rs) (kb : KeysB ps1 p l rs) (hx : xs = List.range' (l + 1) (last - (l + 1))) (hlen : rs.length ≤ k)
    (hd : ∀ m (l' : Nat), p.2.2 = some m → l' < l → (l' : Int) + m ≤ last → ∃ c, (p.1, p.2.1, l', c) ∈ rs) :
    Wp (g_L_tale_b1 (evT (ns.map D.int) net last rs k [some (.fz, .int p.1), some (.fz, .int p.2.1), some (.fz, optD p.2.2), some (.fz, .int l), x9, x10])) (loopQ (InvT1 ns net ps last ps1 p xs) h Q) := by
  have hck := cell_okI (ns := ns) (j := 3 + ((k : Int) + 1) % 60) (i := 3 + (k + 1) % 60) (by (clear hlen hk2 hk hl; omega))
  have hmk := mix_ok (cellF ns (3 + (k + 1) % 60)) ((k : Int) + 1) (by (clear hlen hk2 hk hl; omega)) (by (clear hlen hk hl; omega))
  have hnk := mix_nn (cellF ns (3 + (k + 1) % 60)) ((k : Int) + 1) (by (clear hlen hk2 hk hl; omega)) (by (clear hlen hk hl; omega))
  generalize mixF (cellF ns (3 + (k + 1) % 60)) ((k : Int) + 1) = nu at *
  have ek : (k : Int) + 1 = ((k + 1 : Nat) : Int) := by (clear hnk hlen hk2 hk hl; omega)
  cases o : p.2.2 with
  | none =>
    obtain ⟨c, ec, hc⟩ := emod_nat (nu / 3) (n := 4) (by decide)
    have ec : (l : Int) + 1 + nu / 3 % 4 = ((l + 1 + c : Nat) : Int) := by rw [show nu / 3 % 4 = (c : Int) from ec]; (clear hc ec ek hnk hlen hk2 hk hl; omega)
    simp (disch := first | omega | rfl) [g_L_tale_b1, hck, hmk, optD]
    refine wp_if ?_ ?_ <;> intro hq <;> simp (disch := first | omega | rfl) [g_L_tale_j3, g_L_tale_j2]
    · rw [ek]
      refine ⟨rs, k + 1, _, _, _, by rw [o]; rfl, ro, du, l + 1, hx, by (clear ec hc ek hnk hlen hk2 hk; omega), fun r hr => ?_, by (clear ec hc ek hnk hlen hk2 hl; omega), by (clear ec hc ek hnk hk2 hk hl; omega), by simp [o]⟩
      rcases kb r hr with z | z
      · exact .inl z
      · exact .inr ⟨z.1, by (clear ec hc ek hnk hlen hk2 hk hl; omega)⟩
    · rw [ec, ek]
      have := tale_j1 (ns := ns) (net := net) (x9 := some (.fz, .int nu)) (h := h) (Q := Q) (k := k + 1) (c := l + 1 + c) hp hnot hl (by (clear ec hc ek hnk hlen hk2 hl; omega)) (by (clear ec hc ek hnk hlen hk hl; omega)) ro du kb hx (by (clear ec hc ek hnk hk2 hk hl; omega)) hd (by (clear ec hc ek hnk hlen hk2 hk hl; omega)) (by simp [o])
      rw [o] at this
      exact this
  | some m =>
    have m1 := hpm m o
    have hmin : (0 : Int) < min m 4 := by (clear ek hnk hlen hk2 hk hl; omega)
    have e1 := Int.emod_nonneg (nu / 3) (b := min m 4) (by (clear hmin ek hnk hlen hk2 hk hl; omega))
    have e2 := Int.emod_lt_of_pos (nu / 3) hmin
    obtain ⟨c, ec, hc1, hc2⟩ : ∃ c : Nat, (l : Int) + 1 + nu / 3 % min m 4 = c ∧ l < c ∧ (c : Int) ≤ l + m := by
      refine ⟨((l : Int) + 1 + nu / 3 % min m 4).toNat, ?_, ?_, ?_⟩
      · generalize nu / 3 % min m 4 = z at *; (clear e2 hmin m1 ek hnk hlen hk2 hk hl; omega)
      · generalize nu / 3 % min m 4 = z at *; (clear e2 hmin m1 ek hnk hlen hk2 hk hl; omega)
      · generalize nu / 3 % min m 4 = z at *; (clear e1 hmin ek hnk hlen hk2 hk hl; omega)
    obtain ⟨c', ec', hc'⟩ : ∃ c' : Nat, (l : Int) + m = c' ∧ l < c' := ⟨((l : Int) + m).toNat, by (clear hc2 hc1 ec e2 e1 hmin ek hnk hlen hk2 hk hl; omega), by (clear hc2 hc1 ec e2 e1 hmin ek hnk hlen hk2 hk hl; omega)⟩
    simp (disch := first | omega | rfl) [g_L_tale_b1, hck, hmk, optD, g_L_tale_j3, g_L_tale_j2]
    refine wp_if ?_ ?_ <;> intro hq <;> simp (disch := first | omega | rfl) []
    · rw [ec', ek]
      have := tale_j1 (ns := ns) (net := net) (x9 := some (.fz, .int nu)) (h := h) (Q := Q) (k := k + 1) (c := c') hp hnot hl (by (clear hc' ec' hc2 hc1 ec e2 e1 hmin m1 ek hnk hlen hk2 hl; omega)) (by (clear hc' ec' hc2 hc1 ec e2 e1 hmin m1 ek hnk hlen hk hl; omega)) ro du kb hx (by (clear hc' ec' hc2 hc1 ec e2 e1 hmin m1 ek hnk hk2 hk hl; omega)) hd hc' (by rintro m' e; rw [o] at e; cases e; (clear hc' hc2 hc1 ec e2 e1 hmin m1 ek hnk hlen hk2 hk hl; omega))
      rw [o] at this
      exact this
    · rw [ec, ek]
      have := tale_j1 (ns := ns) (net := net) (x9 := some (.fz, .int nu)) (h := h) (Q := Q) (k := k + 1) (c := c) hp hnot hl (by (clear hc' ec' hc2 hc1 ec e2 e1 hmin m1 ek hnk hlen hk2 hl; omega)) (by (clear hc' ec' hc2 hc1 ec e2 e1 hmin m1 ek hnk hlen hk hl; omega)) ro du kb hx (by (clear hc' ec' hc2 hc1 ec e2 e1 hmin m1 ek hnk hk2 hk hl; omega)) hd hc1 (by rintro m' e; rw [o] at e; cases e; (clear hc' ec' hc2 hc1 e1 hmin m1 ek hnk hlen hk2 hk hl; omega))
      rw [o] at this
      exact this
theorem RunsOk.reverse {ps : List Path} {last : Nat} {rs : List Run} (h : RunsOk ps last rs) : RunsOk ps last rs.reverse :=
  ⟨fun r hr => h.path r (by simpa using hr), fun r hr => h.turn r (by simpa using hr), by rw [List.map_reverse]; exact (List.reverse_perm _).nodup_iff.2 h.nd⟩
theorem tale_ok (ns : List Int) {n : Nat} {ps : List Path} (ok : NetOk n ps) (hps : ps.length ≤ 64) : ∃ last rs ss, GoodT n ps last rs ss ∧ last ≤ 24 ∧ rs.length ≤ 1600 ∧ ss.length ≤ 4 ∧ φ_L_tale [.scr (ns.map D.int), netD n ps] = .ok .fz (taleD last rs ss) := by
  have hc0 := cell_ok0 (ns := ns)
  have hc2 := cell_ok2 (ns := ns)
  have hm := mix_ok (cellF ns 0) 1 (by decide) (by decide)
  refine run_el (φ_L_tale [.scr (ns.map D.int), netD n ps]) rfl ?_
  have e1 : idxD (netD n ps) (.int 1) = some (.fz, .lst (ps.map pathD)) := by simp [netD]
  have j6 : ∀ (last : Nat) (Q : Fl → Prop), last ≤ 24 → Q = runQ (fun x => ∃ last rs ss, GoodT n ps last rs ss ∧ last ≤ 24 ∧ rs.length ≤ 1600 ∧ ss.length ≤ 4 ∧ x = .ok .fz (taleD last rs ss)) → Wp (g_L_tale_j6 [some (.fz, .scr (ns.map D.int)), some (.fz, netD n ps), some (.fz, .int last), none, none, none, none, none, none, none, none]) Q := fun last Q hlast hQ => by
    simp (disch := first | omega | rfl) [g_L_tale_j6, e1]
    refine wp_forM (InvT2 ns (netD n ps) ps last) ?_ ?_ ⟨[], 0, [], _, _, _, _, _, _, rfl, rfl, ⟨by simp, by simp, by simp⟩, by simp [DueB], by simp, by simp, by simp⟩
    · rintro ⟨s, g, o⟩ xs _ _ ⟨rs, k, ps1, x5, x6, x7, x8, x9, x10, rfl, hp, ro, du, kb, hk, hlen⟩
      have hmem : (s, g, o) ∈ ps := by rw [hp]; simp
      have hnot : ends (s, g, o) ∉ ps1.map ends := by
        have := ok.nd
        rw [hp, List.map_append, List.nodup_append] at this
        intro z
        exact this.2.2 _ z _ (by simp) rfl
      have hb : ps1.length < 64 := by have := congrArg List.length hp; simp at this; (clear hlen hk hlast; omega)
      have hkb : ps1.length * last ≤ 63 * 24 := Nat.mul_le_mul (by (clear hlen hk hlast hps; omega)) hlast
      refine ⟨_, rfl, ?_⟩
      simp (disch := first | omega | rfl) [g_L_tale_b2]
      rw [rangeD_eq, range_eq']
      refine wp_forM1 (InvT1 ns (netD n ps) ps last ps1 (s, g, o)) ?_ ?_ ⟨rs, k, _, _, _, rfl, ro, du, 0, rfl, by (clear hkb hb hlen hk hlast hps; omega), fun r hr => .inl (kb r hr), by (clear hkb hb hlen hlast hps; omega), hlen, by intro m l' _ h; (clear hkb hb hlen hk hlast hps; omega)⟩
      · rintro l ys _ _ ⟨rs, k, y8, y9, y10, rfl, ro, du, l', hys, hl', kb, hk, hlen, hd⟩
        obtain ⟨rfl, hl, hy'⟩ := range'_cons hys
        refine ⟨_, rfl, ?_⟩
        simp only [Int.zero_add]
        exact tale_b1 (x9 := y9) (x10 := y10) hmem (fun m e => (ok.m _ hmem m e).1) hnot hl hk (by (clear hl hlen hb hps; omega)) ro du kb hy' hlen hd
      · rintro _ ⟨rs, k, y8, y9, y10, rfl, ro, du, l', hys, hl', kb, hk, hlen, hd⟩
        have : l' = last := by
          have := congrArg List.length hys
          simp at this; (clear hlen hk hkb hb hlast hps; omega)
        subst this
        refine ⟨rs, k, ps1 ++ [(s, g, o)], _, _, _, _, _, _, rfl, by rw [hp]; simp, ro, fun s' g' m l h1 h2 => ?_, fun r hr => ?_, by simp [Nat.succ_mul]; (clear hl' hkb hlast hlen hb hps; omega), hlen⟩
        · rcases List.mem_append.1 h1 with h1 | h1
          · exact du s' g' m l h1 h2
          · simp at h1
            obtain ⟨rfl, rfl, rfl⟩ := h1
            have := (ok.m _ hmem m rfl).1
            exact hd m l rfl (by (clear hk hl' hkb hlast hlen hb hps; omega)) h2
        · rcases kb r hr with z | z
          · simp at z ⊢; exact .inl z
          · simp [z.1]
    · rintro _ ⟨rs, k, ps1, x5, x6, x7, x8, x9, x10, rfl, hp, ro, du, kb, hk, hlen⟩
      simp at hp
      subst hp
      have hkb : ps.length * last ≤ 64 * 24 := Nat.mul_le_mul hps hlast
      obtain ⟨ss, so, hss, hs⟩ := signs_ok ns (n := n) (last := last) (ps := ps) (by have := ok.n1; (clear hkb hk hlen hlast hps; omega)) (by (clear hkb hk hlen hps; omega))
      simp (disch := first | omega | rfl) [g_L_tale_j5]
      refine wp_if ?_ ?_ <;> intro hq <;> simp (disch := first | omega | rfl) [g_L_tale_j4, hs]
      · subst hQ
        simp (disch := first | omega | rfl) []
        refine ⟨last, rs.reverse, ss, ⟨ro.reverse, fun s g m l h1 h2 => ?_, so⟩, hlast, by simp; (clear hss hlast hps; omega), hss, by simp [taleD]⟩
        obtain ⟨c, hc⟩ := du s g m l h1 h2
        exact ⟨c, by simpa using hc⟩
      · subst hQ
        simp (disch := first | omega | rfl) []
        exact ⟨last, rs, ss, ⟨ro, du, so⟩, hlast, by (clear hss hlast hps; omega), hss, rfl⟩
  obtain ⟨a, ea, ha⟩ := emod_nat (cellF ns 2) (n := 9) (by decide)
  obtain ⟨b, eb, hb⟩ := emod_nat (cellF ns 2) (n := 25) (by decide)
  have ea : cellF ns 2 % 9 = (a : Int) := ea
  have eb : cellF ns 2 % 25 = (b : Int) := eb
  simp (disch := first | omega | rfl) [ev0, g_L_tale, hc0, hc2, hm, ea]
  refine wp_if ?_ ?_ <;> intro hq <;> simp (disch := first | omega | rfl) [hc2, eb]
  · exact j6 b _ (by (clear eb ea hb ha hps; omega)) rfl
  · exact j6 a _ (by (clear eb ea hb ha hps; omega)) rfl

section
variable {n last : Nat} {ps : List Path} {rs : List Run} {ss : List Sign}
theorem tale_runs : idxD (taleD last rs ss) (.int 1) = some (.fz, .lst (rs.map runD)) := by simp [taleD]
theorem tale_signs : idxD (taleD last rs ss) (.int 2) = some (.fz, .lst (ss.map signD)) := by simp [taleD]
theorem tale_last : idxD (taleD last rs ss) (.int 0) = some (.fz, .int last) := by simp [taleD]
theorem net_n : idxD (netD n ps) (.int 0) = some (.fz, .int n) := by simp [netD]
theorem net_ps : idxD (netD n ps) (.int 1) = some (.fz, .lst (ps.map pathD)) := by simp [netD]
end
theorem runs_pl (rs : List Run) : plL 57 (rs.map runD) = true := plL_iff.2 fun d hd => by
  obtain ⟨r, _, rfl⟩ := List.mem_map.1 hd
  simp [runD, pl, plL]
theorem handed_pl {n last : Nat} {ps : List Path} {rs : List Run} {ss : List Sign} (so : SignsOk n last ss) : pl 60 (.tup [netD n ps, taleD last rs ss]) = true := by
  have h2 := runs_pl rs
  have h5 : plL 57 (ps.map pathD) = true := plL_iff.2 fun d hd => by
    obtain ⟨⟨s, g, o⟩, _, rfl⟩ := List.mem_map.1 hd
    cases o <;> simp [pathD, pl, plL]
  have h6 : plL 57 (ss.map signD) = true := plL_iff.2 fun d hd => by
    obtain ⟨x, hx, rfl⟩ := List.mem_map.1 hd
    have := so.nm x hx
    simp [nmOk] at this
    simp [signD, pl, plL, this.1.1]
  simp [netD, taleD, pl, plL, h2, h5, h6]
theorem handed_eq {n last : Nat} {ps : List Path} {rs : List Run} {ss : List Sign} (so : SignsOk n last ss) : eqD (.tup [netD n ps, taleD last rs ss]) (.tup [netD n ps, taleD last rs ss]) = some (.fz, .bl true) := by
  rw [eqD_pl (handed_pl so) (handed_pl so)]; simp
inductive Un where | no | out | at (i : Int)
inductive Tr where | came (n : Str) (u : Un) | both (a b : Tr) | either (a b : Tr)
noncomputable def Un.d : Un → D
  | .no => .non
  | .out => .str (Str.ofString "left out")
  | .at i => .int i
noncomputable def Un.by : Un → D
  | .at i => .int i
  | _ => .non
noncomputable def Tr.d : Tr → D
  | .came n u => .tup [.str (Str.ofString "came"), .str n, u.d]
  | .both a b => .tup [.str (Str.ofString "both"), a.d, b.d]
  | .either a b => .tup [.str (Str.ofString "either"), a.d, b.d]
noncomputable def cameO (n : Str) (u : Un) : D := .obj "Came" ["name", "by"] [.str n, u.by]
noncomputable def bothO (a b : D) : D := .obj "Both" ["one", "other"] [a, b]
noncomputable def eithO (a b : D) : D := .obj "Either" ["one", "other"] [a, b]
noncomputable def Tr.o : Tr → D
  | .came n u => cameO n u
  | .both a b => bothO a.o b.o
  | .either a b => eithO a.o b.o
noncomputable def Tr.dep : Tr → Nat
  | .came _ _ => 0
  | .both a b => max a.dep b.dep + 1
  | .either a b => max a.dep b.dep + 1
noncomputable def Tr.ok : Tr → Prop
  | .came n _ => PyData.strOk n = true
  | .both a b => a.ok ∧ b.ok
  | .either a b => a.ok ∧ b.ok
theorem eqW {x y : Str} (hx : PyData.strOk x = true) (hy : PyData.strOk y = true) : eqD (.str x) (.str y) = some (.fz, .bl (decide (x = y))) := by
  rw [eqD_pl (by simp only [pl]; exact hx) (by simp only [pl]; exact hy)]
  congr 3
  rw [Bool.eq_iff_iff, decide_eq_true_iff, decide_eq_true_iff]; simp
theorem wcc : eqD (.str (Str.ofString "came")) (.str (Str.ofString "came")) = some (.fz, .bl true) := by rw [eqW (by decide +kernel) (by decide +kernel), decide_eq_true rfl]
theorem wbc : eqD (.str (Str.ofString "both")) (.str (Str.ofString "came")) = some (.fz, .bl false) := by rw [eqW (by decide +kernel) (by decide +kernel), decide_eq_false (by decide)]
theorem wec : eqD (.str (Str.ofString "either")) (.str (Str.ofString "came")) = some (.fz, .bl false) := by rw [eqW (by decide +kernel) (by decide +kernel), decide_eq_false (by decide)]
theorem wbb : eqD (.str (Str.ofString "both")) (.str (Str.ofString "both")) = some (.fz, .bl true) := by rw [eqW (by decide +kernel) (by decide +kernel), decide_eq_true rfl]
theorem web : eqD (.str (Str.ofString "either")) (.str (Str.ofString "both")) = some (.fz, .bl false) := by rw [eqW (by decide +kernel) (by decide +kernel), decide_eq_false (by decide)]
theorem wbe : eqD (.str (Str.ofString "both")) (.str (Str.ofString "either")) = some (.fz, .bl false) := by rw [eqW (by decide +kernel) (by decide +kernel), decide_eq_false (by decide)]
theorem wee : eqD (.str (Str.ofString "either")) (.str (Str.ofString "either")) = some (.fz, .bl true) := by rw [eqW (by decide +kernel) (by decide +kernel), decide_eq_true rfl]
theorem outU (u : Un) : eqD u.d (.str (Str.ofString "left out")) = some (.fz, .bl (match u with | .out => true | _ => false)) := by
  have ok : PyData.strOk (Str.ofString "left out") = true := by decide +kernel
  rw [eqD_pl (by cases u <;> simp [Un.d, pl, ok]) (by simp [pl, ok])]
  cases u <;> simp [Un.d]
theorem object_ok : ∀ (t : Tr) (n : Nat), t.dep < n → φ_L_object n [t.d] = .ok .fz t.o
  | _, 0, h => absurd h (Nat.not_lt_zero _)
  | .came x u, n + 1, _ => by
    have e1 : ∀ {a b c : D}, idxD (.tup [a, b, c]) (.int 0) = some (.fz, a) := by intros; simp
    have e2 : ∀ {a b c : D}, idxD (.tup [a, b, c]) (.int 1) = some (.fz, b) := by intros; simp
    have e3 : ∀ {a b c : D}, idxD (.tup [a, b, c]) (.int 2) = some (.fz, c) := by intros; simp
    refine run_el (φ_L_object (n + 1) [Tr.d (.came x u)]) rfl ?_
    cases u with
    | no =>
      have ho : eqD .non (.str (Str.ofString "left out")) = some (.fz, .bl false) := outU .no
      simp only [Tr.d, Tr.o, cameO, Un.d, Un.by]
      simp (disch := first | omega | rfl) [ev0, g_L_object, e1, e2, e3, wcc, ho, g_L_object_j4, g_L_object_j3]
    | out =>
      have ho : eqD (.str (Str.ofString "left out")) (.str (Str.ofString "left out")) = some (.fz, .bl true) := outU .out
      simp only [Tr.d, Tr.o, cameO, Un.d, Un.by]
      simp (disch := first | omega | rfl) [ev0, g_L_object, e1, e2, e3, wcc, ho, g_L_object_j4, g_L_object_j3]
    | «at» i =>
      have ho : eqD (.int i) (.str (Str.ofString "left out")) = some (.fz, .bl false) := outU (.at i)
      simp only [Tr.d, Tr.o, cameO, Un.d, Un.by]
      by_cases hi : 0 < i
      · simp (disch := first | omega | rfl) [ev0, g_L_object, e1, e2, e3, wcc, ho, g_L_object_j4, g_L_object_j3, hi]
      · simp (disch := first | omega | rfl) [ev0, g_L_object, e1, e2, e3, wcc, ho, g_L_object_j4, g_L_object_j3, hi]
  | .both a b, n + 1, h => by
    have ha := object_ok a n (by simp [Tr.dep] at h; omega)
    have hb := object_ok b n (by simp [Tr.dep] at h; omega)
    refine run_el (φ_L_object (n + 1) [Tr.d (.both a b)]) rfl ?_
    simp only [Tr.d, Tr.o, bothO]
    simp (disch := first | omega | rfl) [ev0, g_L_object, wbc, wbb, g_L_object_j4, g_L_object_j3, g_L_object_j2, ha, hb]
  | .either a b, n + 1, h => by
    have ha := object_ok a n (by simp [Tr.dep] at h; omega)
    have hb := object_ok b n (by simp [Tr.dep] at h; omega)
    refine run_el (φ_L_object (n + 1) [Tr.d (.either a b)]) rfl ?_
    simp only [Tr.d, Tr.o, eithO]
    simp (disch := first | omega | rfl) [ev0, g_L_object, wec, web, g_L_object_j4, g_L_object_j3, g_L_object_j2, g_L_object_j1, ha, hb]

noncomputable def hitB (n : Str) (u : Un) (x : Sign) : Bool := decide (x.2.2 = n) && (match u with
  | .at i => decide ((x.2.1 : Int) ≤ i)
  | _ => true)
noncomputable def cameB (n : Str) (u : Un) (ss : List Sign) : Bool := ss.any (hitB n u)
noncomputable def Tr.due (ss : List Sign) : Tr → Option D
  | .came n u => if cameB n u ss = true then none else some (.tup [.str (Str.ofString "no"), .str n])
  | .both a b => match a.due ss with
    | some x => some (.tup [.str (Str.ofString "first"), x])
    | none => match b.due ss with
      | some x => some (.tup [.str (Str.ofString "second"), x])
      | none => none
  | .either a b => match a.due ss with
    | none => none
    | some x => match b.due ss with
      | some y => some (.tup [.str (Str.ofString "neither"), x, y])
      | none => none
noncomputable def oD : Option D → D
  | none => .non
  | some d => d
theorem due_tup {ss : List Sign} : ∀ {t : Tr} {d : D}, t.due ss = some d → ∃ l, d = .tup l
  | .came n u, d, h => by
    simp only [Tr.due] at h
    split at h
    · cases h
    · cases h; exact ⟨_, rfl⟩
  | .both a b, d, h => by
    simp only [Tr.due] at h
    split at h
    · cases h; exact ⟨_, rfl⟩
    · split at h
      · cases h; exact ⟨_, rfl⟩
      · cases h
  | .either a b, d, h => by
    simp only [Tr.due] at h
    split at h
    · cases h
    · split at h
      · cases h; exact ⟨_, rfl⟩
      · cases h
theorem oD_isN {ss : List Sign} (t : Tr) : isND (oD (t.due ss)) .non = some (.fz, .bl (t.due ss).isNone) := by
  cases h : t.due ss with
  | none => rfl
  | some d => obtain ⟨l, rfl⟩ := due_tup h; rfl
theorem oD_notN {ss : List Sign} (t : Tr) : notND (oD (t.due ss)) .non = some (.fz, .bl (t.due ss).isSome) := by
  cases h : t.due ss with
  | none => rfl
  | some d => obtain ⟨l, rfl⟩ := due_tup h; rfl
section
variable {n last : Nat} {ps : List Path} {rs : List Run} {ss : List Sign}
noncomputable def InvU (t : D) (nm : Str) (u : Un) (last : Nat) (rs : List Run) (ss : List Sign) (xs : List Sign) (ev : Ev) : Prop := ∃ pre x2 x3 x4, ev = [some (.fz, t), some (.fz, taleD last rs ss), x2, x3, x4, none, none] ∧ ss = pre ++ xs ∧ cameB nm u pre = false
theorem inU (u : Un) : inD u.d (.lst [.non, .str (Str.ofString "left out")]) = some (.fz, .bl (match u with | .at _ => false | _ => true)) := by
  have ok : PyData.strOk (Str.ofString "left out") = true := by decide +kernel
  rw [inD_pl (xs := [.non, .str (Str.ofString "left out")]) rfl (by cases u <;> simp [Un.d, pl, ok]) (by simp [pl, plL, ok])]
  cases u <;> simp [Un.d]
theorem due_came (hs : ∀ x ∈ ss, PyData.strOk x.2.2 = true) {nm : Str} {u : Un} (hn : PyData.strOk nm = true) {r : List D → R} : runF 5 (g_L_due r) [Tr.d (.came nm u), taleD last rs ss] = .ok .fz (oD ((Tr.came nm u).due ss)) := by
  refine run_el (runF 5 (g_L_due r) [Tr.d (.came nm u), taleD last rs ss]) rfl ?_
  have e0 : idxD (Tr.d (.came nm u)) (.int 0) = some (.fz, .str (Str.ofString "came")) := by simp [Tr.d]
  have e1 : idxD (Tr.d (.came nm u)) (.int 1) = some (.fz, .str nm) := by simp [Tr.d]
  have e2 : idxD (Tr.d (.came nm u)) (.int 2) = some (.fz, u.d) := by simp [Tr.d]
  generalize ht : Tr.d (.came nm u) = t at *
  simp (disch := first | omega | rfl) [ev0, g_L_due, e0, wcc, tale_signs]
  refine wp_forM (InvU t nm u last rs ss) ?_ ?_ ⟨[], _, _, _, rfl, rfl, rfl⟩
  · rintro x xs _ ⟨pre0, hp0⟩ ⟨pre, x2, x3, x4, rfl, hp, hc⟩
    have hx : x ∈ ss := by rw [hp]; simp
    have hq := eqW (hs x hx) hn
    have nx : hitB nm u x = false → InvU t nm u last rs ss xs [some (Kd.fz, t), some (.fz, taleD last rs ss), some (.fz, D.int x.1), some (.fz, .int x.2.1), some (.fz, .str x.2.2), none, none] := fun h =>
      ⟨pre ++ [x], _, _, _, rfl, by rw [hp]; simp, by simp only [cameB, List.any_append, Bool.or_eq_false_iff] at hc ⊢; exact ⟨hc, by simp [h]⟩⟩
    have hit : hitB nm u x = true → (Tr.came nm u).due ss = none := fun h => by
      have : cameB nm u ss = true := List.any_eq_true.2 ⟨x, hx, h⟩
      simp [Tr.due, this]
    refine ⟨_, rfl, ?_⟩
    cases u with
    | «at» i =>
      have hu : inD (.int i) (.lst [.non, .str (Str.ofString "left out")]) = some (.fz, .bl false) := inU (.at i)
      simp (disch := first | omega | rfl) [g_L_due_b1, signD, e1, e2, hq, hu, Un.d]
      refine wp_if1 (fun h => ?_) fun h => ?_
      · simp (disch := first | omega | rfl) [hit (by simpa [hitB] using h), oD]
      · simp (disch := first | omega | rfl) []
        exact nx (by simpa [hitB] using h)
    | no =>
      have hu : inD .non (.lst [.non, .str (Str.ofString "left out")]) = some (.fz, .bl true) := inU .no
      simp (disch := first | omega | rfl) [g_L_due_b1, signD, e1, e2, hq, hu, Un.d]
      refine wp_if1 (fun h => ?_) fun h => ?_
      · simp (disch := first | omega | rfl) [hit (by simpa [hitB] using h), oD]
      · simp (disch := first | omega | rfl) []
        exact nx (by simpa [hitB] using h)
    | out =>
      have hu : inD (.str (Str.ofString "left out")) (.lst [.non, .str (Str.ofString "left out")]) = some (.fz, .bl true) := inU .out
      simp (disch := first | omega | rfl) [g_L_due_b1, signD, e1, e2, hq, hu, Un.d]
      refine wp_if1 (fun h => ?_) fun h => ?_
      · simp (disch := first | omega | rfl) [hit (by simpa [hitB] using h), oD]
      · simp (disch := first | omega | rfl) []
        exact nx (by simpa [hitB] using h)
  · rintro _ ⟨pre, x2, x3, x4, rfl, hp, hc⟩
    simp at hp
    subst hp
    simp (disch := first | omega | rfl) [g_L_due_j1, e1, Tr.due, hc, oD]
end
section
variable {n last : Nat} {ps : List Path} {rs : List Run} {ss : List Sign}
theorem due_ok (hs : ∀ x ∈ ss, PyData.strOk x.2.2 = true) : ∀ (t : Tr) (n : Nat), t.dep < n → t.ok → φ_L_due n [t.d, taleD last rs ss] = .ok .fz (oD (t.due ss))
  | _, 0, h, _ => absurd h (Nat.not_lt_zero _)
  | .came x u, n + 1, _, ho => due_came hs ho
  | .both a b, n + 1, h, ho => by
    have ha := due_ok hs a n (by simp [Tr.dep] at h; omega) ho.1
    have hb := due_ok hs b n (by simp [Tr.dep] at h; omega) ho.2
    refine run_el (φ_L_due (n + 1) [Tr.d (.both a b), taleD last rs ss]) rfl ?_
    simp only [Tr.d]
    cases qa : a.due ss with
    | none =>
      rw [qa] at ha
      cases qb : b.due ss with
      | none =>
        rw [qb] at hb
        simp (disch := first | omega | rfl) [ev0, g_L_due, wbc, wbe, wbb, g_L_due_j4, g_L_due_j3, g_L_due_j2, ha, hb, oD, Tr.due, qa, qb]
      | some db =>
        obtain ⟨lb, rfl⟩ := due_tup qb
        rw [qb] at hb
        simp (disch := first | omega | rfl) [ev0, g_L_due, wbc, wbe, wbb, g_L_due_j4, g_L_due_j3, g_L_due_j2, ha, hb, oD, Tr.due, qa, qb]
    | some da =>
      obtain ⟨la, rfl⟩ := due_tup qa
      rw [qa] at ha
      cases qb : b.due ss with
      | none =>
        rw [qb] at hb
        simp (disch := first | omega | rfl) [ev0, g_L_due, wbc, wbe, wbb, g_L_due_j4, g_L_due_j3, g_L_due_j2, ha, hb, oD, Tr.due, qa, qb]
      | some db =>
        obtain ⟨lb, rfl⟩ := due_tup qb
        rw [qb] at hb
        simp (disch := first | omega | rfl) [ev0, g_L_due, wbc, wbe, wbb, g_L_due_j4, g_L_due_j3, g_L_due_j2, ha, hb, oD, Tr.due, qa, qb]
  | .either a b, n + 1, h, ho => by
    have ha := due_ok hs a n (by simp [Tr.dep] at h; omega) ho.1
    have hb := due_ok hs b n (by simp [Tr.dep] at h; omega) ho.2
    refine run_el (φ_L_due (n + 1) [Tr.d (.either a b), taleD last rs ss]) rfl ?_
    simp only [Tr.d]
    cases qa : a.due ss with
    | none =>
      rw [qa] at ha
      cases qb : b.due ss with
      | none =>
        rw [qb] at hb
        simp (disch := first | omega | rfl) [ev0, g_L_due, wec, wee, web, g_L_due_j4, g_L_due_j3, g_L_due_j2, ha, hb, oD, Tr.due, qa, qb]
      | some db =>
        obtain ⟨lb, rfl⟩ := due_tup qb
        rw [qb] at hb
        simp (disch := first | omega | rfl) [ev0, g_L_due, wec, wee, web, g_L_due_j4, g_L_due_j3, g_L_due_j2, ha, hb, oD, Tr.due, qa, qb]
    | some da =>
      obtain ⟨la, rfl⟩ := due_tup qa
      rw [qa] at ha
      cases qb : b.due ss with
      | none =>
        rw [qb] at hb
        simp (disch := first | omega | rfl) [ev0, g_L_due, wec, wee, web, g_L_due_j4, g_L_due_j3, g_L_due_j2, ha, hb, oD, Tr.due, qa, qb]
      | some db =>
        obtain ⟨lb, rfl⟩ := due_tup qb
        rw [qb] at hb
        simp (disch := first | omega | rfl) [ev0, g_L_due, wec, wee, web, g_L_due_j4, g_L_due_j3, g_L_due_j2, ha, hb, oD, Tr.due, qa, qb]
theorem fCn {a b : D} {k : Kd} : fldR ["Came"] "name" (.ok k (.obj "Came" ["name", "by"] [a, b])) = .ok .fz a := fld_ok (by decide) (by rfl)
theorem fCb {a b : D} {k : Kd} : fldR ["Came"] "by" (.ok k (.obj "Came" ["name", "by"] [a, b])) = .ok .fz b := fld_ok (by decide) (by rfl)
theorem fBo {a b : D} {k : Kd} : fldR ["Both"] "one" (.ok k (.obj "Both" ["one", "other"] [a, b])) = .ok .fz a := fld_ok (by decide) (by rfl)
theorem fBt {a b : D} {k : Kd} : fldR ["Both"] "other" (.ok k (.obj "Both" ["one", "other"] [a, b])) = .ok .fz b := fld_ok (by decide) (by rfl)
theorem fEo {a b : D} {k : Kd} : fldR ["Either"] "one" (.ok k (.obj "Either" ["one", "other"] [a, b])) = .ok .fz a := fld_ok (by decide) (by rfl)
theorem fEt {a b : D} {k : Kd} : fldR ["Either"] "other" (.ok k (.obj "Either" ["one", "other"] [a, b])) = .ok .fz b := fld_ok (by decide) (by rfl)
noncomputable def InvC (N t : D) (nm : Str) (u : Un) (last : Nat) (rs : List Run) (ss : List Sign) (xs : List Sign) (ev : Ev) : Prop := ∃ pre x2 x3 x4, ev = [some (.fz, t), some (.fz, N), some (.fz, taleD last rs ss), x2, x3, x4] ∧ ss = pre ++ xs ∧ cameB nm u pre = false
theorem doubt_came (hs : ∀ x ∈ ss, PyData.strOk x.2.2 = true) {nm : Str} {u : Un} (hn : PyData.strOk nm = true) {t : MTab} {N : D} : runF 3 (g_M_Came_doubt t) [cameO nm u, N, taleD last rs ss] = .ok .fz (oD ((Tr.came nm u).due ss)) := by
  refine run_el (runF 3 (g_M_Came_doubt t) [cameO nm u, N, taleD last rs ss]) rfl ?_
  have e1 : ∀ k, fldR ["Came"] "name" (.ok k (cameO nm u)) = .ok .fz (.str nm) := fun _ => fCn
  have e2 : ∀ k, fldR ["Came"] "by" (.ok k (cameO nm u)) = .ok .fz u.by := fun _ => fCb
  generalize ht : cameO nm u = o at *
  simp (disch := first | omega | rfl) [ev0, g_M_Came_doubt, tale_signs]
  refine wp_forM (InvC N o nm u last rs ss) ?_ ?_ ⟨[], _, _, _, rfl, rfl, rfl⟩
  · rintro x xs _ ⟨pre0, hp0⟩ ⟨pre, x2, x3, x4, rfl, hp, hc⟩
    have hx : x ∈ ss := by rw [hp]; simp
    have hq := eqW (hs x hx) hn
    have nx : hitB nm u x = false → InvC N o nm u last rs ss xs [some (Kd.fz, o), some (.fz, N), some (.fz, taleD last rs ss), some (.fz, D.int x.1), some (.fz, .int x.2.1), some (.fz, .str x.2.2)] := fun h =>
      ⟨pre ++ [x], _, _, _, rfl, by rw [hp]; simp, by simp only [cameB, List.any_append, Bool.or_eq_false_iff] at hc ⊢; exact ⟨hc, by simp [h]⟩⟩
    have hit : hitB nm u x = true → (Tr.came nm u).due ss = none := fun h => by
      have : cameB nm u ss = true := List.any_eq_true.2 ⟨x, hx, h⟩
      simp [Tr.due, this]
    refine ⟨_, rfl, ?_⟩
    cases u with
    | «at» i =>
      simp (disch := first | omega | rfl) [g_M_Came_doubt_b1, signD, e1, e2, hq, Un.by]
      refine wp_if1 (fun h => ?_) fun h => ?_
      · simp (disch := first | omega | rfl) [hit (by simpa [hitB] using h), oD]
      · simp (disch := first | omega | rfl) []
        exact nx (by simpa [hitB] using h)
    | no =>
      simp (disch := first | omega | rfl) [g_M_Came_doubt_b1, signD, e1, e2, hq, Un.by]
      refine wp_if1 (fun h => ?_) fun h => ?_
      · simp (disch := first | omega | rfl) [hit (by simpa [hitB] using h), oD]
      · simp (disch := first | omega | rfl) []
        exact nx (by simpa [hitB] using h)
    | out =>
      simp (disch := first | omega | rfl) [g_M_Came_doubt_b1, signD, e1, e2, hq, Un.by]
      refine wp_if1 (fun h => ?_) fun h => ?_
      · simp (disch := first | omega | rfl) [hit (by simpa [hitB] using h), oD]
      · simp (disch := first | omega | rfl) []
        exact nx (by simpa [hitB] using h)
  · rintro _ ⟨pre, x2, x3, x4, rfl, hp, hc⟩
    simp at hp
    subst hp
    simp (disch := first | omega | rfl) [g_M_Came_doubt_j1, e1, Tr.due, hc, oD]
theorem lkC {n : Nat} : (tab_doubt (n + 1)).lookup (Str.ofString "Came") = some (runF 3 (g_M_Came_doubt (tab_doubt n))) := by rfl
theorem lkB {n : Nat} : (tab_doubt (n + 1)).lookup (Str.ofString "Both") = some (runF 2 (g_M_Both_doubt (tab_doubt n))) := by rfl
theorem lkE {n : Nat} : (tab_doubt (n + 1)).lookup (Str.ofString "Either") = some (runF 2 (g_M_Either_doubt (tab_doubt n))) := by rfl
theorem doubt_ok (hs : ∀ x ∈ ss, PyData.strOk x.2.2 = true) {N : D} : ∀ (t : Tr) (n : Nat), t.dep < n → t.ok → methR "doubt" 3 (tab_doubt n) (.ok .fz t.o) (.ok [(.fz, N), (.fz, taleD last rs ss)]) = .ok .fz (oD (t.due ss))
  | _, 0, h, _ => absurd h (Nat.not_lt_zero _)
  | .came x u, n + 1, _, ho => by
    have e := doubt_came (last := last) (rs := rs) hs (nm := x) (u := u) ho (t := tab_doubt n) (N := N)
    show methR "doubt" 3 (tab_doubt (n + 1)) (.ok .fz (.obj "Came" _ _)) _ = _
    rw [meth_ok (by decide) lkC]
    simp (disch := first | omega | rfl) []
    unfold cameO at e
    rw [e]; rfl
  | .both a b, n + 1, h, ho => by
    have ha := doubt_ok hs (N := N) a n (by simp [Tr.dep] at h; omega) ho.1
    have hb := doubt_ok hs (N := N) b n (by simp [Tr.dep] at h; omega) ho.2
    have na := oD_notN (ss := ss) a
    have nb := oD_isN (ss := ss) b
    have e : runF 2 (g_M_Both_doubt (tab_doubt n)) [bothO a.o b.o, N, taleD last rs ss] = .ok .fz (oD ((Tr.both a b).due ss)) := by
      refine run_el (runF 2 (g_M_Both_doubt (tab_doubt n)) [bothO a.o b.o, N, taleD last rs ss]) rfl ?_
      simp only [bothO]
      cases qa : a.due ss with
      | none =>
        rw [qa] at ha
        cases qb : b.due ss with
        | none =>
          rw [qb] at hb
          simp (disch := first | omega | rfl) [ev0, g_M_Both_doubt, g_M_Both_doubt_j1, fBo, fBt, ha, hb, oD, Tr.due, qa, qb]
        | some db =>
          obtain ⟨lb, rfl⟩ := due_tup qb
          rw [qb] at hb
          simp (disch := first | omega | rfl) [ev0, g_M_Both_doubt, g_M_Both_doubt_j1, fBo, fBt, ha, hb, oD, Tr.due, qa, qb]
      | some da =>
        obtain ⟨la, rfl⟩ := due_tup qa
        rw [qa] at ha
        simp (disch := first | omega | rfl) [ev0, g_M_Both_doubt, g_M_Both_doubt_j1, fBo, fBt, ha, hb, oD, Tr.due, qa]
    show methR "doubt" 3 (tab_doubt (n + 1)) (.ok .fz (.obj "Both" _ _)) _ = _
    rw [meth_ok (by decide) lkB]
    simp (disch := first | omega | rfl) []
    unfold bothO at e
    rw [e]; rfl
  | .either a b, n + 1, h, ho => by
    have ha := doubt_ok hs (N := N) a n (by simp [Tr.dep] at h; omega) ho.1
    have hb := doubt_ok hs (N := N) b n (by simp [Tr.dep] at h; omega) ho.2
    have e : runF 2 (g_M_Either_doubt (tab_doubt n)) [eithO a.o b.o, N, taleD last rs ss] = .ok .fz (oD ((Tr.either a b).due ss)) := by
      refine run_el (runF 2 (g_M_Either_doubt (tab_doubt n)) [eithO a.o b.o, N, taleD last rs ss]) rfl ?_
      simp only [eithO]
      cases qa : a.due ss with
      | none =>
        rw [qa] at ha
        simp (disch := first | omega | rfl) [ev0, g_M_Either_doubt, g_M_Either_doubt_j1, fEo, fEt, ha, hb, oD, Tr.due, qa]
      | some da =>
        obtain ⟨la, rfl⟩ := due_tup qa
        rw [qa] at ha
        cases qb : b.due ss with
        | none =>
          rw [qb] at hb
          simp (disch := first | omega | rfl) [ev0, g_M_Either_doubt, g_M_Either_doubt_j1, fEo, fEt, ha, hb, oD, Tr.due, qa, qb]
        | some db =>
          obtain ⟨lb, rfl⟩ := due_tup qb
          rw [qb] at hb
          simp (disch := first | omega | rfl) [ev0, g_M_Either_doubt, g_M_Either_doubt_j1, fEo, fEt, ha, hb, oD, Tr.due, qa, qb]
    show methR "doubt" 3 (tab_doubt (n + 1)) (.ok .fz (.obj "Either" _ _)) _ = _
    rw [meth_ok (by decide) lkE]
    simp (disch := first | omega | rfl) []
    unfold eithO at e
    rw [e]; rfl
end
section
variable {ns : List Int} {n last : Nat} {ps : List Path} {rs : List Run} {ss : List Sign}
noncomputable def nmsD (ss : List Sign) : List D := (ss.map fun x => D.str x.2.2) ++ [.str (Str.ofString "a"), .str (Str.ofString "none"), .str (Str.ofString "aaaaaaaaaaaa")]
theorem nms_at (hs : ∀ x ∈ ss, PyData.strOk x.2.2 = true) {j : Nat} (hj : j < (nmsD ss).length) : ∃ x, PyData.strOk x = true ∧ atI (nmsD ss) (j : Int) = some (.str x) := by
  have hm : (nmsD ss)[j] ∈ nmsD ss := List.getElem_mem hj
  have : ∀ d ∈ nmsD ss, ∃ x, PyData.strOk x = true ∧ d = .str x := fun d hd => by
    unfold nmsD at hd
    rcases List.mem_append.1 hd with h | h
    · obtain ⟨x, hx, rfl⟩ := List.mem_map.1 h; exact ⟨_, hs x hx, rfl⟩
    · simp only [List.mem_cons, List.not_mem_nil, or_false] at h
      rcases h with rfl | rfl | rfl <;> exact ⟨_, by decide +kernel, rfl⟩
  obtain ⟨x, hx, e⟩ := this _ hm
  exact ⟨x, hx, atI_of (by rw [List.getElem?_eq_getElem hj, e])⟩
theorem tree_ok (hs : ∀ x ∈ ss, PyData.strOk x.2.2 = true) (hl : ss.length ≤ 4) : ∀ (fuel m k : Nat), m < fuel → (k + 2) * 2 ^ m ≤ 1024 → ∃ t : Tr, t.dep ≤ m ∧ t.ok ∧ φ_L_tree fuel [.scr (ns.map D.int), taleD last rs ss, .int m, .int k] = .ok .fz t.d
  | 0, m, k, h, _ => absurd h (Nat.not_lt_zero _)
  | f + 1, m, k, h, hk => by
    have k1 : k ≤ 1024 := by
      have : (k + 2) * 1 ≤ (k + 2) * 2 ^ m := Nat.mul_le_mul_left _ (Nat.one_le_two_pow)
      omega
    obtain ⟨j, ej, hj⟩ := emod_nat (k : Int) (n := 60) (by decide)
    have hc := cell_okI (ns := ns) (j := 3 + (k : Int) % 60) (i := 3 + j) (by omega)
    have hm := mix_ok (cellF ns (3 + j)) (40 + (k : Int)) (by omega) (by omega)
    have hc2 := compO_map (b := bName 0) (e := eOp idxD (varR 0) (conR (.int 2))) (ev := [none]) (enc := signD) (l := ss) (fun x => .str x.2.2) (by simp [LIM]; omega) (fun x _ => by
      refine ⟨_, rfl, .fz, by simp, ?_⟩
      simp (disch := first | omega | rfl) [signD])
    generalize mixF (cellF ns (3 + j)) (40 + (k : Int)) = nu at *
    have hlen : ss.length + 3 ≤ LIM := by simp [LIM]; omega
    have p50 : powD (.int 10) (.int 50) = some (.fz, .int 100000000000000000000000000000000000000000000000000) := by rfl
    obtain ⟨q, eq, hq⟩ := emod_nat (nu / 300) (n := (nmsD ss).length) (by simp [nmsD])
    obtain ⟨x, hx, hat⟩ := nms_at hs hq
    obtain ⟨z, ez, hz⟩ := emod_nat (nu / 60) (n := 5) (by decide)
    have leaf : ∃ u : Un, ∃ d, atI [D.non, .str (Str.ofString "left out"), .int (nu / 5 % ((last : Int) + 3) - 1), .int 100000000000000000000000000000000000000000000000000, .int (-100000000000000000000000000000000000000000000000000)] (z : Int) = some d ∧ d = u.d := by
      match z, hz with
      | 0, _ => exact ⟨.no, _, atI_of rfl, rfl⟩
      | 1, _ => exact ⟨.out, _, atI_of rfl, rfl⟩
      | 2, _ => exact ⟨.at _, _, atI_of rfl, rfl⟩
      | 3, _ => exact ⟨.at _, _, atI_of rfl, rfl⟩
      | 4, _ => exact ⟨.at _, _, atI_of rfl, rfl⟩
    obtain ⟨u, d, hu, rfl⟩ := leaf
    have ez' : nu / 60 % 5 = z := by simpa using ez
    have eq' : nu / 300 % ((ss.length : Int) + 3) = q := by simpa [nmsD] using eq
    have hat' : atI (List.map (fun x => D.str x.2.2) ss ++ [D.str (Str.ofString "a"), D.str (Str.ofString "none"), D.str (Str.ofString "aaaaaaaaaaaa")]) (q : Int) = some (.str x) := hat
    by_cases lc : m = 0 ∨ nu % 5 = 0
    · refine ⟨.came x u, by simp [Tr.dep], hx, ?_⟩
      refine run_el (φ_L_tree (f + 1) [.scr (ns.map D.int), taleD last rs ss, .int m, .int k]) rfl ?_
      have lc' : (decide (m = 0) || decide (nu % 5 = 0)) = true := by simpa using lc
      simp (disch := first | omega | rfl) [ev0, g_L_tree, hc, hm, tale_signs, tale_last, hc2, hlen, p50, ez', hu, lc', eq', hat', Tr.d]
    · have lc' : (decide (m = 0) || decide (nu % 5 = 0)) = false := by simpa using lc
      obtain ⟨m', rfl⟩ : ∃ m', m = m' + 1 := ⟨m - 1, by omega⟩
      have lc2 : (decide ((m' : Int) + 1 = 0) || decide (nu % 5 = 0)) = false := by
        have a1 : ¬ ((m' : Int) + 1 = 0) := by omega
        have a2 : ¬ nu % 5 = 0 := fun z => lc (.inr z)
        simp [a1, a2]
      have pw : 2 ^ (m' + 1) = 2 * 2 ^ m' := by rw [Nat.pow_succ, Nat.mul_comm]
      have b1 : (2 * k + 1 + 2) * 2 ^ m' ≤ 1024 := Nat.le_trans (Nat.mul_le_mul_right _ (by omega : 2 * k + 1 + 2 ≤ (k + 2) * 2)) (by rw [Nat.mul_assoc, ← pw]; exact hk)
      have b2 : (2 * k + 2 + 2) * 2 ^ m' ≤ 1024 := Nat.le_trans (Nat.mul_le_mul_right _ (by omega : 2 * k + 2 + 2 ≤ (k + 2) * 2)) (by rw [Nat.mul_assoc, ← pw]; exact hk)
      obtain ⟨ta, da, oa, ha⟩ := tree_ok hs hl f m' (2 * k + 1) (by omega) b1
      obtain ⟨tb, db, ob, hb⟩ := tree_ok hs hl f m' (2 * k + 2) (by omega) b2
      have i1 : ((m' + 1 : Nat) : Int) - 1 = m' := by omega
      have i2 : ((2 * k + 1 : Nat) : Int) = 2 * (k : Int) + 1 := by omega
      have i3 : ((2 * k + 2 : Nat) : Int) = 2 * (k : Int) + 2 := by omega
      rw [i2] at ha
      rw [i3] at hb
      have mu : mulD (.int 2) (.int (k : Int)) = some (.fz, .int (2 * (k : Int))) := mulD_ok (by omega)
      obtain ⟨w, ew, hw⟩ := emod_nat (nu / 5) (n := 2) (by decide)
      have ew' : nu / 5 % 2 = w := by simpa using ew
      have ev1 : Wp (g_L_tree (φ_L_tree f) (ev0 4 [.scr (ns.map D.int), taleD last rs ss, .int ((m' + 1 : Nat) : Int), .int k])) (runQ fun r => r = .ok .fz (if w = 0 then Tr.both ta tb else .either ta tb).d) := by
        match w, hw with
        | 0, _ => simp (disch := first | omega | rfl) [ev0, g_L_tree, hc, hm, tale_signs, tale_last, hc2, hlen, lc2, g_L_tree_j1, mu, ha, hb, ew', Tr.d]
        | 1, _ => simp (disch := first | omega | rfl) [ev0, g_L_tree, hc, hm, tale_signs, tale_last, hc2, hlen, lc2, g_L_tree_j1, mu, ha, hb, ew', Tr.d]
      refine ⟨if w = 0 then .both ta tb else .either ta tb, ?_, ?_, ?_⟩
      · split <;> simp only [Tr.dep] <;> omega
      · split <;> exact ⟨oa, ob⟩
      · exact run_el (φ_L_tree (f + 1) [.scr (ns.map D.int), taleD last rs ss, .int ((m' + 1 : Nat) : Int), .int k]) rfl ev1
end
theorem pl_le {d : D} {n m : Nat} (h : n ≤ m) (p : pl n d = true) : pl m d = true := by
  induction h with
  | refl => exact p
  | step _ ih => exact pl_up ih
theorem due_pl {ss : List Sign} : ∀ {t : Tr} {d : D}, t.ok → t.due ss = some d → pl (t.dep + 1) d = true
  | .came n u, d, o, h => by
    simp only [Tr.due] at h
    split at h
    · cases h
    · cases h
      have o : PyData.strOk n = true := o
      have w : PyData.strOk (Str.ofString "no") = true := by decide +kernel
      simp [pl, plL, o, w]
  | .both a b, d, o, h => by
    simp only [Tr.due] at h
    have w1 : PyData.strOk (Str.ofString "first") = true := by decide +kernel
    have w2 : PyData.strOk (Str.ofString "second") = true := by decide +kernel
    split at h
    · rename_i x e
      cases h
      have := pl_le (m := max a.dep b.dep + 1) (by omega) (due_pl o.1 e)
      simp [Tr.dep, pl, plL, w1, this]
    · split at h
      · rename_i x e
        cases h
        have := pl_le (m := max a.dep b.dep + 1) (by omega) (due_pl o.2 e)
        simp [Tr.dep, pl, plL, w2, this]
      · cases h
  | .either a b, d, o, h => by
    simp only [Tr.due] at h
    have w1 : PyData.strOk (Str.ofString "neither") = true := by decide +kernel
    split at h
    · cases h
    · rename_i x e
      split at h
      · rename_i y e2
        cases h
        have h1 := pl_le (m := max a.dep b.dep + 1) (by omega) (due_pl o.1 e)
        have h2 := pl_le (m := max a.dep b.dep + 1) (by omega) (due_pl o.2 e2)
        simp [Tr.dep, pl, plL, w1, h1, h2]
      · cases h
section
variable {n last : Nat} {ps : List Path} {rs : List Run} {ss : List Sign}
theorem lhC : (tab_holds).lookup (Str.ofString "Came") = some φ_M_Sentence_holds := by rfl
theorem lhB : (tab_holds).lookup (Str.ofString "Both") = some φ_M_Sentence_holds := by rfl
theorem lhE : (tab_holds).lookup (Str.ofString "Either") = some φ_M_Sentence_holds := by rfl
theorem lhS : (tab_holds).lookup (Str.ofString "Sentence") = some φ_M_Sentence_holds := by rfl
theorem lkS {n : Nat} : (tab_doubt (n + 1)).lookup (Str.ofString "Sentence") = some (runF 0 (g_M_Sentence_doubt (tab_doubt n))) := by rfl
theorem holds_run {o N T d : D} (h : methR "doubt" 3 (tab_doubt 12) (.ok .fz o) (.ok [(.fz, N), (.fz, T)]) = .ok .fz d) {b : Bool} (hb : isND d .non = some (.fz, .bl b)) : φ_M_Sentence_holds [o, N, T] = .ok .fz (.bl b) := by
  refine run_el (φ_M_Sentence_holds [o, N, T]) rfl ?_
  simp (disch := first | omega | rfl) [ev0, g_M_Sentence_holds, h, hb]
theorem holds_ok (hs : ∀ x ∈ ss, PyData.strOk x.2.2 = true) {N : D} (t : Tr) (hd : t.dep < 12) (ho : t.ok) : methR "holds" 3 tab_holds (.ok .fz t.o) (.ok [(.fz, N), (.fz, taleD last rs ss)]) = .ok .fz (.bl (t.due ss).isNone) := by
  have e := holds_run (doubt_ok (last := last) (rs := rs) hs (N := N) t 12 hd ho) (oD_isN t)
  cases t with
  | came x u =>
    simp only [Tr.o, cameO] at e ⊢
    rw [meth_ok (by decide) lhC]
    simp (disch := first | omega | rfl) [e]
  | both a b =>
    simp only [Tr.o, bothO] at e ⊢
    rw [meth_ok (by decide) lhB]
    simp (disch := first | omega | rfl) [e]
  | either a b =>
    simp only [Tr.o, eithO] at e ⊢
    rw [meth_ok (by decide) lhE]
    simp (disch := first | omega | rfl) [e]
theorem eq_bools (a : Bool) : eqD (.bl a) (.bl a) = some (.fz, .bl true) := by cases a <;> rfl
theorem right_ok (hs : ∀ x ∈ ss, PyData.strOk x.2.2 = true) {N : D} (t : Tr) (hd : t.dep ≤ 4) (ho : t.ok) : φ_L_right [t.o, t.d, N, taleD last rs ss] = .ok .fz (.bl true) := by
  have h1 := due_ok (last := last) (rs := rs) hs t 12 (by omega) ho
  have h2 := doubt_ok (last := last) (rs := rs) hs (N := N) t 12 (by omega) ho
  have h3 := holds_ok (last := last) (rs := rs) hs (N := N) t (by omega) ho
  have k0 : ∀ b : Bool, isiD [.bl b, .ty "bool"] = some (.fz, .bl true) := fun _ => (rfl)
  refine run_el (φ_L_right [t.o, t.d, N, taleD last rs ss]) rfl ?_
  cases q : t.due ss with
  | none =>
    rw [q] at h1 h2 h3
    have k1 := eq_bools true
    simp (disch := first | omega | rfl) [ev0, g_L_right, h1, h2, oD, g_L_right_j2, g_L_right_j1, h3, k0, k1]
  | some d =>
    have hp := pl_le (m := 60) (by omega) (due_pl ho q)
    obtain ⟨l, rfl⟩ := due_tup q
    rw [q] at h1 h2 h3
    have k1 := eq_bools false
    have k2 : isiD [.tup l, .ty "tuple"] = some (.fz, .bl true) := (rfl)
    have k3 : neD (.tup l) (.tup l) = some (.fz, .bl false) := by rw [neD_pl hp hp]; simp
    simp (disch := first | omega | rfl) [ev0, g_L_right, h1, h2, oD, g_L_right_j2, g_L_right_j1, h3, k0, k1, k2, k3]
end
theorem base_doubt {N T : D} {n : Nat} : methR "doubt" 3 (tab_doubt (n + 1)) (.ok .fz (.obj "Sentence" [] [])) (.ok [(.fz, N), (.fz, T)]) = .ok .fz (.tup [.str (Str.ofString "no"), .str (Str.ofString "")]) := by
  rw [meth_ok (by decide) lkS]
  have e : runF 0 (g_M_Sentence_doubt (tab_doubt n)) [.obj "Sentence" [] [], N, T] = .ok .fz (.tup [.str (Str.ofString "no"), .str (Str.ofString "")]) := by
    refine run_el (runF 0 (g_M_Sentence_doubt (tab_doubt n)) [.obj "Sentence" [] [], N, T]) rfl ?_
    simp (disch := first | omega | rfl) [ev0, g_M_Sentence_doubt]
  simp (disch := first | omega | rfl) [e]
theorem base_holds {N T : D} : methR "holds" 3 tab_holds (.ok .fz (.obj "Sentence" [] [])) (.ok [(.fz, N), (.fz, T)]) = .ok .fz (.bl false) := by
  have e := holds_run (o := .obj "Sentence" [] []) (N := N) (T := T) (base_doubt (n := 11)) (b := false) rfl
  rw [meth_ok (by decide) lhS]
  simp (disch := first | omega | rfl) [e]
noncomputable def isTab : List (Str × Bool) := [("Sentence", true), ("Came", true), ("Both", true), ("Either", true), ("Knows", true), ("Shared", true)]
theorem is_of {c : Str} {ns : List Str} {xs : List D} (h : c ∈ isTab.map (·.1)) : isCD [("Sentence", true), ("Came", true), ("Both", true), ("Either", true), ("Knows", true), ("Shared", true)] (.ok .fz (.obj c ns xs)) = .ok .fz (.bl true) := by
  simp only [isTab, List.map_cons, List.map_nil, List.mem_cons, List.not_mem_nil, or_false] at h
  rcases h with rfl | rfl | rfl | rfl | rfl | rfl <;> exact isC_ok rfl
theorem cut1 (xs : List D) : cutG xs (some 1) none = xs.tail := by
  cases xs with
  | nil => rfl
  | cons d l =>
    simp only [cutG, HT.sIx]
    simp
theorem law_ok (ns : List Int) (hl : ns.length ≤ 63) : φ_law [.scr (ns.map D.int)] = .ok .fz (.bl true) := by
  obtain ⟨gg, hgg⟩ : ∃ gg, gg = g_law_b1 := ⟨_, rfl⟩
  obtain ⟨g2, hg2⟩ : ∃ g2, g2 = g_law_b2 := ⟨_, rfl⟩
  obtain ⟨n, ps, ok, hps, hnet⟩ := net_ok ns
  obtain ⟨last, rs, ss, gt, hlast, hrs, hss, htale⟩ := tale_ok ns ok hps
  have so := gt.signs
  have hs : ∀ x ∈ ss, PyData.strOk x.2.2 = true := fun x hx => by have := so.nm x hx; simp [nmOk] at this; exact this.1.1
  obtain ⟨t, td, to, ht⟩ := tree_ok (ns := ns) (last := last) (rs := rs) hs hss 12 4 0 (by decide) (by decide)
  have hob := object_ok t 12 (by omega)
  have ht' : φ_L_tree 12 [.scr (ns.map D.int), taleD last rs ss, .int 4, .int 0] = .ok .fz t.d := ht
  have hs2 : ∀ x ∈ ss.tail ++ [(0, 0, Str.ofString "none")], PyData.strOk x.2.2 = true := fun x hx => by
    rcases List.mem_append.1 hx with h | h
    · exact hs x (List.mem_of_mem_tail h)
    · simp at h; subst h; decide +kernel
  have r1 := right_ok (last := last) (rs := rs) hs (N := netD n ps) t td to
  have r2 := right_ok (last := last) (rs := rs) hs2 (N := netD n ps) t td to
  have heq := handed_eq (ps := ps) (rs := rs) so
  have t1 : D.tup [.int n, .lst (ps.map pathD)] = netD n ps := rfl
  have t2 : D.tup [.int last, .lst (rs.map runD), .lst (ss.map signD)] = taleD last rs ss := rfl
  have hsl := cut1 (ss.map signD)
  have hl2 : ss.length - 1 + 1 ≤ LIM := by simp [LIM]; omega
  refine run_el (φ_law [.scr (ns.map D.int)]) rfl ?_
  simp (disch := first | omega | rfl) [ev0, g_law, hnet, htale, net_n, net_ps, tale_runs, tale_signs, tale_last, ht', hob, hsl, hl2, t1, t2]
  have t3 : D.tup [.int last, .lst (rs.map runD), .lst ((ss.map signD).tail ++ [D.tup [D.int 0, D.int 0, D.str (Str.ofString "none")]])] = taleD last rs (ss.tail ++ [(0, 0, Str.ofString "none")]) := by
    simp [taleD, signD]
  rw [t3, ← hgg]
  refine wp_forM (enc := fun b : Bool => if b then taleD last rs ss else taleD last rs (ss.tail ++ [(0, 0, Str.ofString "none")])) (l := [true, false, true]) (fun _ ev => ∃ x, ev = [some (.fz, .scr (ns.map D.int)), some (.fz, netD n ps), some (.fz, taleD last rs ss), some (.fz, taleD last rs (ss.tail ++ [(0, 0, Str.ofString "none")])), some (.fz, t.d), some (.fz, t.o), some (.fz, .tup [netD n ps, taleD last rs ss]), x, none, none]) ?_ ?_ ⟨_, rfl⟩
  · rintro b xs _ _ ⟨x, rfl⟩
    refine ⟨_, rfl, ?_⟩
    cases b with
    | true => simp (disch := first | omega | rfl) [hgg, g_law_b1, r1]
    | false => simp (disch := first | omega | rfl) [hgg, g_law_b1, r2]
  · rintro _ ⟨x, rfl⟩
    have e1 : eqD (.tup [.str (Str.ofString "no"), .str (Str.ofString "")]) (.tup [.str (Str.ofString "no"), .str (Str.ofString "")]) = some (.fz, .bl true) := by
      have w : pl 60 (.tup [.str (Str.ofString "no"), .str (Str.ofString "")]) = true := by
        have w1 : PyData.strOk (Str.ofString "no") = true := by decide +kernel
        have w2 : PyData.strOk (Str.ofString "") = true := by decide +kernel
        simp [pl, plL, w1, w2]
      rw [eqD_pl w w]; simp
    have l5 : 5 ≤ LIM := by simp [LIM]
    simp (disch := first | omega | rfl) [g_law_j2, l5]
    rw [← hg2]
    refine wp_forM (enc := fun p : Str × List Str × List D => D.obj p.1 p.2.1 p.2.2)
      (l := [("Came", ["name", "by"], [D.str (Str.ofString "a"), D.non]), ("Both", ["one", "other"], [D.obj "Came" ["name", "by"] [D.str (Str.ofString "b"), D.non], t.o]), ("Either", ["one", "other"], [t.o, D.obj "Came" ["name", "by"] [D.str (Str.ofString "b"), D.non]]), ("Knows", ["house", "turn", "inside"], [D.int 0, D.int 0, t.o]), ("Shared", ["houses", "turn", "inside"], [D.lst [D.int 0], D.int 0, t.o])])
      (fun _ ev => ∃ x y z, ev = [some (.fz, .scr (ns.map D.int)), some (.fz, netD n ps), some (.fz, taleD last rs ss), x, some (.fz, t.d), some (.fz, t.o), some (.fz, .tup [netD n ps, taleD last rs ss]), y, z, none]) ?_ ?_ ⟨_, _, _, rfl⟩
    · rintro p xs _ ⟨pre, hp⟩ ⟨x, y, z, rfl⟩
      have hm : p.1 ∈ isTab.map (·.1) := by
        have h0 : p ∈ pre ++ p :: xs := by simp
        rw [← hp] at h0
        simp only [List.mem_cons, List.not_mem_nil, or_false] at h0
        rcases h0 with rfl | rfl | rfl | rfl | rfl <;> (dsimp only; decide)
      have hi := is_of (ns := p.2.1) (xs := p.2.2) hm
      refine ⟨_, rfl, ?_⟩
      simp (disch := first | omega | rfl) [hg2, g_law_b2, hi]
    · rintro _ ⟨x, y, z, rfl⟩
      have hb := base_doubt (N := netD n ps) (T := taleD last rs ss) (n := 11)
      have hh := base_holds (N := netD n ps) (T := taleD last rs ss)
      simp (disch := first | omega | rfl) [g_law_j1, hb, hh, e1, heq]

theorem all_mk {l : PySem.W.OpenLaw} {w : World} {K : PySem.W.Frag} {h : Heap} {mg : Str → Option Value} {fa f0 f1 f2 f3 f4 f5 f6 f7 f8 f9 : Addr} (X : K.In h) (G : h.Ns mainGlobals mg) (hfa : mg "law" = some (.ref fa))
    {od0 an0 : Option Addr} {sl0 : Array (Option Value)} {oc0 kV0 dc0 pm0 cd0 ct0 : Value}
    (a0 : PySem.W.nsIn K mainGlobals "_law_cell_at" = some (some (.ref f0))) (l0 : K.lookup f0 = some ⟨oc0, od0, .func (PySem.W.fnOf "_law_cell_at" "_law_cell_at" (defArgs s_L_cell_at) (defBody s_L_cell_at) (defScope s_L_cell_at) .none kV0 dc0 pm0 an0 cd0 ct0), sl0⟩) (c0 : PySem.W.codeIn K cd0 "_law_cell_at" = true) (k0 : PySem.W.keepIn K (.ref f0) = true)
    {od1 an1 : Option Addr} {sl1 : Array (Option Value)} {oc1 kV1 dc1 pm1 cd1 ct1 : Value}
    (a1 : PySem.W.nsIn K mainGlobals "_law_mix" = some (some (.ref f1))) (l1 : K.lookup f1 = some ⟨oc1, od1, .func (PySem.W.fnOf "_law_mix" "_law_mix" (defArgs s_L_mix) (defBody s_L_mix) (defScope s_L_mix) .none kV1 dc1 pm1 an1 cd1 ct1), sl1⟩) (c1 : PySem.W.codeIn K cd1 "_law_mix" = true) (k1 : PySem.W.keepIn K (.ref f1) = true)
    {od2 an2 : Option Addr} {sl2 : Array (Option Value)} {oc2 kV2 dc2 pm2 cd2 ct2 : Value}
    (a2 : PySem.W.nsIn K mainGlobals "_law_net" = some (some (.ref f2))) (l2 : K.lookup f2 = some ⟨oc2, od2, .func (PySem.W.fnOf "_law_net" "_law_net" (defArgs s_L_net) (defBody s_L_net) (defScope s_L_net) .none kV2 dc2 pm2 an2 cd2 ct2), sl2⟩) (c2 : PySem.W.codeIn K cd2 "_law_net" = true) (k2 : PySem.W.keepIn K (.ref f2) = true)
    {od3 an3 : Option Addr} {sl3 : Array (Option Value)} {oc3 kV3 dc3 pm3 cd3 ct3 : Value}
    (a3 : PySem.W.nsIn K mainGlobals "_law_object" = some (some (.ref f3))) (l3 : K.lookup f3 = some ⟨oc3, od3, .func (PySem.W.fnOf "_law_object" "_law_object" (defArgs s_L_object) (defBody s_L_object) (defScope s_L_object) .none kV3 dc3 pm3 an3 cd3 ct3), sl3⟩) (c3 : PySem.W.codeIn K cd3 "_law_object" = true) (k3 : PySem.W.keepIn K (.ref f3) = true)
    {od4 an4 : Option Addr} {sl4 : Array (Option Value)} {oc4 kV4 dc4 pm4 cd4 ct4 : Value}
    (a4 : PySem.W.nsIn K mainGlobals "_law_due" = some (some (.ref f4))) (l4 : K.lookup f4 = some ⟨oc4, od4, .func (PySem.W.fnOf "_law_due" "_law_due" (defArgs s_L_due) (defBody s_L_due) (defScope s_L_due) .none kV4 dc4 pm4 an4 cd4 ct4), sl4⟩) (c4 : PySem.W.codeIn K cd4 "_law_due" = true) (k4 : PySem.W.keepIn K (.ref f4) = true)
    {od5 an5 : Option Addr} {sl5 : Array (Option Value)} {oc5 kV5 dc5 pm5 cd5 ct5 : Value}
    (a5 : PySem.W.nsIn K mainGlobals "_law_right" = some (some (.ref f5))) (l5 : K.lookup f5 = some ⟨oc5, od5, .func (PySem.W.fnOf "_law_right" "_law_right" (defArgs s_L_right) (defBody s_L_right) (defScope s_L_right) .none kV5 dc5 pm5 an5 cd5 ct5), sl5⟩) (c5 : PySem.W.codeIn K cd5 "_law_right" = true) (k5 : PySem.W.keepIn K (.ref f5) = true)
    {od6 an6 : Option Addr} {sl6 : Array (Option Value)} {oc6 kV6 dc6 pm6 cd6 ct6 : Value}
    (a6 : PySem.W.nsIn K mainGlobals "_law_signs" = some (some (.ref f6))) (l6 : K.lookup f6 = some ⟨oc6, od6, .func (PySem.W.fnOf "_law_signs" "_law_signs" (defArgs s_L_signs) (defBody s_L_signs) (defScope s_L_signs) .none kV6 dc6 pm6 an6 cd6 ct6), sl6⟩) (c6 : PySem.W.codeIn K cd6 "_law_signs" = true) (k6 : PySem.W.keepIn K (.ref f6) = true)
    {od7 an7 : Option Addr} {sl7 : Array (Option Value)} {oc7 kV7 dc7 pm7 cd7 ct7 : Value}
    (a7 : PySem.W.nsIn K mainGlobals "_law_tale" = some (some (.ref f7))) (l7 : K.lookup f7 = some ⟨oc7, od7, .func (PySem.W.fnOf "_law_tale" "_law_tale" (defArgs s_L_tale) (defBody s_L_tale) (defScope s_L_tale) .none kV7 dc7 pm7 an7 cd7 ct7), sl7⟩) (c7 : PySem.W.codeIn K cd7 "_law_tale" = true) (k7 : PySem.W.keepIn K (.ref f7) = true)
    {od8 an8 : Option Addr} {sl8 : Array (Option Value)} {oc8 kV8 dc8 pm8 cd8 ct8 : Value}
    (a8 : PySem.W.nsIn K mainGlobals "_law_tree" = some (some (.ref f8))) (l8 : K.lookup f8 = some ⟨oc8, od8, .func (PySem.W.fnOf "_law_tree" "_law_tree" (defArgs s_L_tree) (defBody s_L_tree) (defScope s_L_tree) .none kV8 dc8 pm8 an8 cd8 ct8), sl8⟩) (c8 : PySem.W.codeIn K cd8 "_law_tree" = true) (k8 : PySem.W.keepIn K (.ref f8) = true)
    {od9 an9 : Option Addr} {sl9 : Array (Option Value)} {oc9 kV9 dc9 pm9 cd9 ct9 : Value}
    (a9 : PySem.W.nsIn K mainGlobals "law" = some (some (.ref f9))) (l9 : K.lookup f9 = some ⟨oc9, od9, .func (PySem.W.fnOf "law" "law" (defArgs s_law) (defBody s_law) (defScope s_law) .none kV9 dc9 pm9 an9 cd9 ct9), sl9⟩) (c9 : PySem.W.codeIn K cd9 "law" = true) (k9 : PySem.W.keepIn K (.ref f9) = true)
    (z_abs : PySem.W.nsIn K mainGlobals "abs" = some none)
    (z_bool : PySem.W.nsIn K mainGlobals "bool" = some none)
    (z_isinstance : PySem.W.nsIn K mainGlobals "isinstance" = some none)
    (z_len : PySem.W.nsIn K mainGlobals "len" = some none)
    (z_list : PySem.W.nsIn K mainGlobals "list" = some none)
    (z_min : PySem.W.nsIn K mainGlobals "min" = some none)
    (z_range : PySem.W.nsIn K mainGlobals "range" = some none)
    (z_tuple : PySem.W.nsIn K mainGlobals "tuple" = some none)
    {K_Sentence : Addr}
    (n_Sentence : PySem.W.nsIn K mainGlobals "Sentence" = some (some (.ref K_Sentence)))
    {K_Came : Addr}
    (n_Came : PySem.W.nsIn K mainGlobals "Came" = some (some (.ref K_Came)))
    {K_Both : Addr}
    (n_Both : PySem.W.nsIn K mainGlobals "Both" = some (some (.ref K_Both)))
    {K_Either : Addr}
    (n_Either : PySem.W.nsIn K mainGlobals "Either" = some (some (.ref K_Either)))
    {K_Knows : Addr}
    (n_Knows : PySem.W.nsIn K mainGlobals "Knows" = some (some (.ref K_Knows)))
    {K_Shared : Addr}
    (n_Shared : PySem.W.nsIn K mainGlobals "Shared" = some (some (.ref K_Shared)))
    (pg_Sentence : PySem.W.plainGet K K_Sentence Str.empty = true)
    (hd_Sentence : PySem.W.hasDictIn K K_Sentence = true)
    (po_Sentence : PySem.W.plainOver K K_Sentence = true)
    (sa_Sentence : PySem.W.findIn K (.ref K_Sentence) "__setattr__" = some (some (.builtin "object.__setattr__")))
    (pg_Came : PySem.W.plainGet K K_Came Str.empty = true)
    (hd_Came : PySem.W.hasDictIn K K_Came = true)
    (po_Came : PySem.W.plainOver K K_Came = true)
    (sa_Came : PySem.W.findIn K (.ref K_Came) "__setattr__" = some (some (.builtin "object.__setattr__")))
    (na_Came_name : PySem.W.findIn K (.ref K_Came) "name" = some none)
    (na_Came_by : PySem.W.findIn K (.ref K_Came) "by" = some none)
    (pg_Both : PySem.W.plainGet K K_Both Str.empty = true)
    (hd_Both : PySem.W.hasDictIn K K_Both = true)
    (po_Both : PySem.W.plainOver K K_Both = true)
    (sa_Both : PySem.W.findIn K (.ref K_Both) "__setattr__" = some (some (.builtin "object.__setattr__")))
    (na_Both_one : PySem.W.findIn K (.ref K_Both) "one" = some none)
    (na_Both_other : PySem.W.findIn K (.ref K_Both) "other" = some none)
    (pg_Either : PySem.W.plainGet K K_Either Str.empty = true)
    (hd_Either : PySem.W.hasDictIn K K_Either = true)
    (po_Either : PySem.W.plainOver K K_Either = true)
    (sa_Either : PySem.W.findIn K (.ref K_Either) "__setattr__" = some (some (.builtin "object.__setattr__")))
    (na_Either_one : PySem.W.findIn K (.ref K_Either) "one" = some none)
    (na_Either_other : PySem.W.findIn K (.ref K_Either) "other" = some none)
    (pg_Knows : PySem.W.plainGet K K_Knows Str.empty = true)
    (hd_Knows : PySem.W.hasDictIn K K_Knows = true)
    (po_Knows : PySem.W.plainOver K K_Knows = true)
    (sa_Knows : PySem.W.findIn K (.ref K_Knows) "__setattr__" = some (some (.builtin "object.__setattr__")))
    (na_Knows_house : PySem.W.findIn K (.ref K_Knows) "house" = some none)
    (na_Knows_turn : PySem.W.findIn K (.ref K_Knows) "turn" = some none)
    (na_Knows_inside : PySem.W.findIn K (.ref K_Knows) "inside" = some none)
    (pg_Shared : PySem.W.plainGet K K_Shared Str.empty = true)
    (hd_Shared : PySem.W.hasDictIn K K_Shared = true)
    (po_Shared : PySem.W.plainOver K K_Shared = true)
    (sa_Shared : PySem.W.findIn K (.ref K_Shared) "__setattr__" = some (some (.builtin "object.__setattr__")))
    (na_Shared_houses : PySem.W.findIn K (.ref K_Shared) "houses" = some none)
    (na_Shared_turn : PySem.W.findIn K (.ref K_Shared) "turn" = some none)
    (na_Shared_inside : PySem.W.findIn K (.ref K_Shared) "inside" = some none)
    (mk_Both : PySem.W.makesIn K K_Both = true)
    (kp_Both : PySem.W.keepIn K (.ref K_Both) = true)
    {f_M_Both_init : Addr}
    (in_Both : PySem.W.findIn K (.ref K_Both) "__init__" = some (some (.ref f_M_Both_init)))
    {od_M_Both_init an_M_Both_init : Option Addr} {sl_M_Both_init : Array (Option Value)} {oc_M_Both_init kV_M_Both_init dc_M_Both_init pm_M_Both_init cd_M_Both_init ct_M_Both_init : Value}
    (l_M_Both_init : K.lookup f_M_Both_init = some ⟨oc_M_Both_init, od_M_Both_init, .func (PySem.W.fnOf "__init__" "Both.__init__" (defArgs s_M_Both_init) (defBody s_M_Both_init) (defScope s_M_Both_init) .none kV_M_Both_init dc_M_Both_init pm_M_Both_init an_M_Both_init cd_M_Both_init ct_M_Both_init), sl_M_Both_init⟩)
    (c_M_Both_init : PySem.W.codeIn K cd_M_Both_init "Both.__init__" = true)
    (k_M_Both_init : PySem.W.keepIn K (.ref f_M_Both_init) = true)
    (y_M_Both_init : PySem.W.isFn K (.ref f_M_Both_init) = true)
    (mk_Came : PySem.W.makesIn K K_Came = true)
    (kp_Came : PySem.W.keepIn K (.ref K_Came) = true)
    {f_M_Came_init : Addr}
    (in_Came : PySem.W.findIn K (.ref K_Came) "__init__" = some (some (.ref f_M_Came_init)))
    {T_M_Came_init : Addr}
    {od_M_Came_init an_M_Came_init : Option Addr} {sl_M_Came_init : Array (Option Value)} {oc_M_Came_init kV_M_Came_init dc_M_Came_init pm_M_Came_init cd_M_Came_init ct_M_Came_init : Value}
    (l_M_Came_init : K.lookup f_M_Came_init = some ⟨oc_M_Came_init, od_M_Came_init, .func (PySem.W.fnOf "__init__" "Came.__init__" (defArgs s_M_Came_init) (defBody s_M_Came_init) (defScope s_M_Came_init) (.ref T_M_Came_init) kV_M_Came_init dc_M_Came_init pm_M_Came_init an_M_Came_init cd_M_Came_init ct_M_Came_init), sl_M_Came_init⟩)
    (c_M_Came_init : PySem.W.codeIn K cd_M_Came_init "Came.__init__" = true)
    (k_M_Came_init : PySem.W.keepIn K (.ref f_M_Came_init) = true)
    (y_M_Came_init : PySem.W.isFn K (.ref f_M_Came_init) = true)
    {tc_M_Came_init : Value} {td_M_Came_init : Option Addr} {tn_M_Came_init : Nat} {ts_M_Came_init : Array (Option Value)}
    (dt_M_Came_init : K.lookup T_M_Came_init = some ⟨tc_M_Came_init, td_M_Came_init, .seq #[Value.none] tn_M_Came_init, ts_M_Came_init⟩)
    (mk_Either : PySem.W.makesIn K K_Either = true)
    (kp_Either : PySem.W.keepIn K (.ref K_Either) = true)
    {f_M_Either_init : Addr}
    (in_Either : PySem.W.findIn K (.ref K_Either) "__init__" = some (some (.ref f_M_Either_init)))
    {od_M_Either_init an_M_Either_init : Option Addr} {sl_M_Either_init : Array (Option Value)} {oc_M_Either_init kV_M_Either_init dc_M_Either_init pm_M_Either_init cd_M_Either_init ct_M_Either_init : Value}
    (l_M_Either_init : K.lookup f_M_Either_init = some ⟨oc_M_Either_init, od_M_Either_init, .func (PySem.W.fnOf "__init__" "Either.__init__" (defArgs s_M_Either_init) (defBody s_M_Either_init) (defScope s_M_Either_init) .none kV_M_Either_init dc_M_Either_init pm_M_Either_init an_M_Either_init cd_M_Either_init ct_M_Either_init), sl_M_Either_init⟩)
    (c_M_Either_init : PySem.W.codeIn K cd_M_Either_init "Either.__init__" = true)
    (k_M_Either_init : PySem.W.keepIn K (.ref f_M_Either_init) = true)
    (y_M_Either_init : PySem.W.isFn K (.ref f_M_Either_init) = true)
    {f_M_Sentence_doubt : Addr}
    (me_Sentence_doubt : PySem.W.findIn K (.ref K_Sentence) "doubt" = some (some (.ref f_M_Sentence_doubt)))
    {od_M_Sentence_doubt an_M_Sentence_doubt : Option Addr} {sl_M_Sentence_doubt : Array (Option Value)} {oc_M_Sentence_doubt kV_M_Sentence_doubt dc_M_Sentence_doubt pm_M_Sentence_doubt cd_M_Sentence_doubt ct_M_Sentence_doubt : Value}
    (l_M_Sentence_doubt : K.lookup f_M_Sentence_doubt = some ⟨oc_M_Sentence_doubt, od_M_Sentence_doubt, .func (PySem.W.fnOf "doubt" "Sentence.doubt" (defArgs s_M_Sentence_doubt) (defBody s_M_Sentence_doubt) (defScope s_M_Sentence_doubt) .none kV_M_Sentence_doubt dc_M_Sentence_doubt pm_M_Sentence_doubt an_M_Sentence_doubt cd_M_Sentence_doubt ct_M_Sentence_doubt), sl_M_Sentence_doubt⟩)
    (c_M_Sentence_doubt : PySem.W.codeIn K cd_M_Sentence_doubt "Sentence.doubt" = true)
    (k_M_Sentence_doubt : PySem.W.keepIn K (.ref f_M_Sentence_doubt) = true)
    (y_M_Sentence_doubt : PySem.W.isFn K (.ref f_M_Sentence_doubt) = true)
    {f_M_Came_doubt : Addr}
    (me_Came_doubt : PySem.W.findIn K (.ref K_Came) "doubt" = some (some (.ref f_M_Came_doubt)))
    {od_M_Came_doubt an_M_Came_doubt : Option Addr} {sl_M_Came_doubt : Array (Option Value)} {oc_M_Came_doubt kV_M_Came_doubt dc_M_Came_doubt pm_M_Came_doubt cd_M_Came_doubt ct_M_Came_doubt : Value}
    (l_M_Came_doubt : K.lookup f_M_Came_doubt = some ⟨oc_M_Came_doubt, od_M_Came_doubt, .func (PySem.W.fnOf "doubt" "Came.doubt" (defArgs s_M_Came_doubt) (defBody s_M_Came_doubt) (defScope s_M_Came_doubt) .none kV_M_Came_doubt dc_M_Came_doubt pm_M_Came_doubt an_M_Came_doubt cd_M_Came_doubt ct_M_Came_doubt), sl_M_Came_doubt⟩)
    (c_M_Came_doubt : PySem.W.codeIn K cd_M_Came_doubt "Came.doubt" = true)
    (k_M_Came_doubt : PySem.W.keepIn K (.ref f_M_Came_doubt) = true)
    (y_M_Came_doubt : PySem.W.isFn K (.ref f_M_Came_doubt) = true)
    {f_M_Both_doubt : Addr}
    (me_Both_doubt : PySem.W.findIn K (.ref K_Both) "doubt" = some (some (.ref f_M_Both_doubt)))
    {od_M_Both_doubt an_M_Both_doubt : Option Addr} {sl_M_Both_doubt : Array (Option Value)} {oc_M_Both_doubt kV_M_Both_doubt dc_M_Both_doubt pm_M_Both_doubt cd_M_Both_doubt ct_M_Both_doubt : Value}
    (l_M_Both_doubt : K.lookup f_M_Both_doubt = some ⟨oc_M_Both_doubt, od_M_Both_doubt, .func (PySem.W.fnOf "doubt" "Both.doubt" (defArgs s_M_Both_doubt) (defBody s_M_Both_doubt) (defScope s_M_Both_doubt) .none kV_M_Both_doubt dc_M_Both_doubt pm_M_Both_doubt an_M_Both_doubt cd_M_Both_doubt ct_M_Both_doubt), sl_M_Both_doubt⟩)
    (c_M_Both_doubt : PySem.W.codeIn K cd_M_Both_doubt "Both.doubt" = true)
    (k_M_Both_doubt : PySem.W.keepIn K (.ref f_M_Both_doubt) = true)
    (y_M_Both_doubt : PySem.W.isFn K (.ref f_M_Both_doubt) = true)
    {f_M_Either_doubt : Addr}
    (me_Either_doubt : PySem.W.findIn K (.ref K_Either) "doubt" = some (some (.ref f_M_Either_doubt)))
    {od_M_Either_doubt an_M_Either_doubt : Option Addr} {sl_M_Either_doubt : Array (Option Value)} {oc_M_Either_doubt kV_M_Either_doubt dc_M_Either_doubt pm_M_Either_doubt cd_M_Either_doubt ct_M_Either_doubt : Value}
    (l_M_Either_doubt : K.lookup f_M_Either_doubt = some ⟨oc_M_Either_doubt, od_M_Either_doubt, .func (PySem.W.fnOf "doubt" "Either.doubt" (defArgs s_M_Either_doubt) (defBody s_M_Either_doubt) (defScope s_M_Either_doubt) .none kV_M_Either_doubt dc_M_Either_doubt pm_M_Either_doubt an_M_Either_doubt cd_M_Either_doubt ct_M_Either_doubt), sl_M_Either_doubt⟩)
    (c_M_Either_doubt : PySem.W.codeIn K cd_M_Either_doubt "Either.doubt" = true)
    (k_M_Either_doubt : PySem.W.keepIn K (.ref f_M_Either_doubt) = true)
    (y_M_Either_doubt : PySem.W.isFn K (.ref f_M_Either_doubt) = true)
    {f_M_Sentence_holds : Addr}
    (me_Sentence_holds : PySem.W.findIn K (.ref K_Sentence) "holds" = some (some (.ref f_M_Sentence_holds)))
    {od_M_Sentence_holds an_M_Sentence_holds : Option Addr} {sl_M_Sentence_holds : Array (Option Value)} {oc_M_Sentence_holds kV_M_Sentence_holds dc_M_Sentence_holds pm_M_Sentence_holds cd_M_Sentence_holds ct_M_Sentence_holds : Value}
    (l_M_Sentence_holds : K.lookup f_M_Sentence_holds = some ⟨oc_M_Sentence_holds, od_M_Sentence_holds, .func (PySem.W.fnOf "holds" "Sentence.holds" (defArgs s_M_Sentence_holds) (defBody s_M_Sentence_holds) (defScope s_M_Sentence_holds) .none kV_M_Sentence_holds dc_M_Sentence_holds pm_M_Sentence_holds an_M_Sentence_holds cd_M_Sentence_holds ct_M_Sentence_holds), sl_M_Sentence_holds⟩)
    (c_M_Sentence_holds : PySem.W.codeIn K cd_M_Sentence_holds "Sentence.holds" = true)
    (k_M_Sentence_holds : PySem.W.keepIn K (.ref f_M_Sentence_holds) = true)
    (y_M_Sentence_holds : PySem.W.isFn K (.ref f_M_Sentence_holds) = true)
    (me_Came_holds : PySem.W.findIn K (.ref K_Came) "holds" = some (some (.ref f_M_Sentence_holds)))
    (me_Both_holds : PySem.W.findIn K (.ref K_Both) "holds" = some (some (.ref f_M_Sentence_holds)))
    (me_Either_holds : PySem.W.findIn K (.ref K_Either) "holds" = some (some (.ref f_M_Sentence_holds)))
    (mk_Knows : PySem.W.makesIn K K_Knows = true)
    (kp_Knows : PySem.W.keepIn K (.ref K_Knows) = true)
    {f_M_Knows_init : Addr}
    (in_Knows : PySem.W.findIn K (.ref K_Knows) "__init__" = some (some (.ref f_M_Knows_init)))
    {od_M_Knows_init an_M_Knows_init : Option Addr} {sl_M_Knows_init : Array (Option Value)} {oc_M_Knows_init kV_M_Knows_init dc_M_Knows_init pm_M_Knows_init cd_M_Knows_init ct_M_Knows_init : Value}
    (l_M_Knows_init : K.lookup f_M_Knows_init = some ⟨oc_M_Knows_init, od_M_Knows_init, .func (PySem.W.fnOf "__init__" "Knows.__init__" (defArgs s_M_Knows_init) (defBody s_M_Knows_init) (defScope s_M_Knows_init) .none kV_M_Knows_init dc_M_Knows_init pm_M_Knows_init an_M_Knows_init cd_M_Knows_init ct_M_Knows_init), sl_M_Knows_init⟩)
    (c_M_Knows_init : PySem.W.codeIn K cd_M_Knows_init "Knows.__init__" = true)
    (k_M_Knows_init : PySem.W.keepIn K (.ref f_M_Knows_init) = true)
    (y_M_Knows_init : PySem.W.isFn K (.ref f_M_Knows_init) = true)
    (mk_Sentence : PySem.W.makesIn K K_Sentence = true)
    (kp_Sentence : PySem.W.keepIn K (.ref K_Sentence) = true)
    (in_Sentence : PySem.W.findIn K (.ref K_Sentence) "__init__" = some (some (.builtin "object.__init__")))
    (mk_Shared : PySem.W.makesIn K K_Shared = true)
    (kp_Shared : PySem.W.keepIn K (.ref K_Shared) = true)
    {f_M_Shared_init : Addr}
    (in_Shared : PySem.W.findIn K (.ref K_Shared) "__init__" = some (some (.ref f_M_Shared_init)))
    {od_M_Shared_init an_M_Shared_init : Option Addr} {sl_M_Shared_init : Array (Option Value)} {oc_M_Shared_init kV_M_Shared_init dc_M_Shared_init pm_M_Shared_init cd_M_Shared_init ct_M_Shared_init : Value}
    (l_M_Shared_init : K.lookup f_M_Shared_init = some ⟨oc_M_Shared_init, od_M_Shared_init, .func (PySem.W.fnOf "__init__" "Shared.__init__" (defArgs s_M_Shared_init) (defBody s_M_Shared_init) (defScope s_M_Shared_init) .none kV_M_Shared_init dc_M_Shared_init pm_M_Shared_init an_M_Shared_init cd_M_Shared_init ct_M_Shared_init), sl_M_Shared_init⟩)
    (c_M_Shared_init : PySem.W.codeIn K cd_M_Shared_init "Shared.__init__" = true)
    (k_M_Shared_init : PySem.W.keepIn K (.ref f_M_Shared_init) = true)
    (y_M_Shared_init : PySem.W.isFn K (.ref f_M_Shared_init) = true)
    (hcn : PySem.W.specialIn K (.builtin "object.__class__") "__get__" = some (some (.builtin "getset_descriptor.__get__")))
    (hct : PySem.W.takesIn K (.builtin "object.__class__") = some true)
    (ha_Sentence : PySem.W.findIn K (.ref K_Sentence) "__class__" = some (some (.builtin "object.__class__")))
    (hm_Sentence : PySem.W.mroIn K K_Sentence (.type "object") = some true)
    (kt_Sentence_Sentence : PySem.W.kitOne K (.ref K_Sentence) (.ref K_Sentence) = some true)
    (ha_Came : PySem.W.findIn K (.ref K_Came) "__class__" = some (some (.builtin "object.__class__")))
    (hm_Came : PySem.W.mroIn K K_Came (.type "object") = some true)
    (kt_Sentence_Came : PySem.W.kitOne K (.ref K_Came) (.ref K_Sentence) = some true)
    (ha_Both : PySem.W.findIn K (.ref K_Both) "__class__" = some (some (.builtin "object.__class__")))
    (hm_Both : PySem.W.mroIn K K_Both (.type "object") = some true)
    (kt_Sentence_Both : PySem.W.kitOne K (.ref K_Both) (.ref K_Sentence) = some true)
    (ha_Either : PySem.W.findIn K (.ref K_Either) "__class__" = some (some (.builtin "object.__class__")))
    (hm_Either : PySem.W.mroIn K K_Either (.type "object") = some true)
    (kt_Sentence_Either : PySem.W.kitOne K (.ref K_Either) (.ref K_Sentence) = some true)
    (ha_Knows : PySem.W.findIn K (.ref K_Knows) "__class__" = some (some (.builtin "object.__class__")))
    (hm_Knows : PySem.W.mroIn K K_Knows (.type "object") = some true)
    (kt_Sentence_Knows : PySem.W.kitOne K (.ref K_Knows) (.ref K_Sentence) = some true)
    (ha_Shared : PySem.W.findIn K (.ref K_Shared) "__class__" = some (some (.builtin "object.__class__")))
    (hm_Shared : PySem.W.mroIn K K_Shared (.type "object") = some true)
    (kt_Sentence_Shared : PySem.W.kitOne K (.ref K_Shared) (.ref K_Sentence) = some true)
    : ∃ fd : FuncData, (∀ (s : Shared) (v : Value), BindsTo s fd ⟨[v], []⟩ [("_law_script", v)]) ∧ ∀ base : Heap, K.In base → base.Ns mainGlobals mg → FnOk l.prog w K mg base CX0 15 fa fd ["_law_script"] (spV0 K φ_law 1) := by
  have e := hfa.symm.trans (PySem.W.mg_of X G a9)
  cases e
  have m_abs := PySem.W.mg_none_of X G z_abs
  have m_bool := PySem.W.mg_none_of X G z_bool
  have m_isinstance := PySem.W.mg_none_of X G z_isinstance
  have m_len := PySem.W.mg_none_of X G z_len
  have m_list := PySem.W.mg_none_of X G z_list
  have m_min := PySem.W.mg_none_of X G z_min
  have m_range := PySem.W.mg_none_of X G z_range
  have m_tuple := PySem.W.mg_none_of X G z_tuple
  have F0 := fun_mk (st := s_L_cell_at) l0 c0 k0
  have b0 := F0.binds (ps := ps_L_cell_at) fun _ _ _ _ _ _ us hl => match us, hl with | [_, _], _ => rfl
  have F1 := fun_mk (st := s_L_mix) l1 c1 k1
  have b1 := F1.binds (ps := ps_L_mix) fun _ _ _ _ _ _ us hl => match us, hl with | [_, _], _ => rfl
  have F2 := fun_mk (st := s_L_net) l2 c2 k2
  have b2 := F2.binds (ps := ps_L_net) fun _ _ _ _ _ _ us hl => match us, hl with | [_], _ => rfl
  have F3 := fun_mk (st := s_L_object) l3 c3 k3
  have b3 := F3.binds (ps := ps_L_object) fun _ _ _ _ _ _ us hl => match us, hl with | [_], _ => rfl
  have F4 := fun_mk (st := s_L_due) l4 c4 k4
  have b4 := F4.binds (ps := ps_L_due) fun _ _ _ _ _ _ us hl => match us, hl with | [_, _], _ => rfl
  have F5 := fun_mk (st := s_L_right) l5 c5 k5
  have b5 := F5.binds (ps := ps_L_right) fun _ _ _ _ _ _ us hl => match us, hl with | [_, _, _, _], _ => rfl
  have F6 := fun_mk (st := s_L_signs) l6 c6 k6
  have b6 := F6.binds (ps := ps_L_signs) fun _ _ _ _ _ _ us hl => match us, hl with | [_, _, _], _ => rfl
  have F7 := fun_mk (st := s_L_tale) l7 c7 k7
  have b7 := F7.binds (ps := ps_L_tale) fun _ _ _ _ _ _ us hl => match us, hl with | [_, _], _ => rfl
  have F8 := fun_mk (st := s_L_tree) l8 c8 k8
  have b8 := F8.binds (ps := ps_L_tree) fun _ _ _ _ _ _ us hl => match us, hl with | [_, _, _, _], _ => rfl
  have F9 := fun_mk (st := s_law) l9 c9 k9
  have Cl_Sentence : Cls K K_Sentence := ⟨pg_Sentence, hd_Sentence, po_Sentence, sa_Sentence⟩
  have Cl_Came : Cls K K_Came := ⟨pg_Came, hd_Came, po_Came, sa_Came⟩
  have Cl_Both : Cls K K_Both := ⟨pg_Both, hd_Both, po_Both, sa_Both⟩
  have Cl_Either : Cls K K_Either := ⟨pg_Either, hd_Either, po_Either, sa_Either⟩
  have Cl_Knows : Cls K K_Knows := ⟨pg_Knows, hd_Knows, po_Knows, sa_Knows⟩
  have Cl_Shared : Cls K K_Shared := ⟨pg_Shared, hd_Shared, po_Shared, sa_Shared⟩
  have FO_Both_one : FldOk K ["Both"] "one" := (fld_cons n_Both Cl_Both na_Both_one fld_nil)
  have FO_Both_other : FldOk K ["Both"] "other" := (fld_cons n_Both Cl_Both na_Both_other fld_nil)
  have FO_Came_by : FldOk K ["Came"] "by" := (fld_cons n_Came Cl_Came na_Came_by fld_nil)
  have FO_Came_name : FldOk K ["Came"] "name" := (fld_cons n_Came Cl_Came na_Came_name fld_nil)
  have FO_Either_one : FldOk K ["Either"] "one" := (fld_cons n_Either Cl_Either na_Either_one fld_nil)
  have FO_Either_other : FldOk K ["Either"] "other" := (fld_cons n_Either Cl_Either na_Either_other fld_nil)
  have IS_Sentence : ∃ S, mg "Sentence" = some (.ref S) ∧ IsOk K S [("Sentence", true), ("Came", true), ("Both", true), ("Either", true), ("Knows", true), ("Shared", true)] := ⟨K_Sentence, PySem.W.mg_of X G n_Sentence, (is_cons ⟨n_Sentence, Cl_Sentence, ha_Sentence, hcn, hct, hm_Sentence, kt_Sentence_Sentence⟩ (is_cons ⟨n_Came, Cl_Came, ha_Came, hcn, hct, hm_Came, kt_Sentence_Came⟩ (is_cons ⟨n_Both, Cl_Both, ha_Both, hcn, hct, hm_Both, kt_Sentence_Both⟩ (is_cons ⟨n_Either, Cl_Either, ha_Either, hcn, hct, hm_Either, kt_Sentence_Either⟩ (is_cons ⟨n_Knows, Cl_Knows, ha_Knows, hcn, hct, hm_Knows, kt_Sentence_Knows⟩ (is_cons ⟨n_Shared, Cl_Shared, ha_Shared, hcn, hct, hm_Shared, kt_Sentence_Shared⟩ is_nil))))))⟩
  have F_M_Sentence_doubt := fun_mk (st := s_M_Sentence_doubt) l_M_Sentence_doubt c_M_Sentence_doubt k_M_Sentence_doubt
  have b_M_Sentence_doubt := F_M_Sentence_doubt.binds (ps := ps_M_Sentence_doubt) fun _ _ _ _ _ _ us hl => match us, hl with | [_, _, _], _ => rfl
  have F_M_Came_doubt := fun_mk (st := s_M_Came_doubt) l_M_Came_doubt c_M_Came_doubt k_M_Came_doubt
  have b_M_Came_doubt := F_M_Came_doubt.binds (ps := ps_M_Came_doubt) fun _ _ _ _ _ _ us hl => match us, hl with | [_, _, _], _ => rfl
  have F_M_Both_doubt := fun_mk (st := s_M_Both_doubt) l_M_Both_doubt c_M_Both_doubt k_M_Both_doubt
  have b_M_Both_doubt := F_M_Both_doubt.binds (ps := ps_M_Both_doubt) fun _ _ _ _ _ _ us hl => match us, hl with | [_, _, _], _ => rfl
  have F_M_Either_doubt := fun_mk (st := s_M_Either_doubt) l_M_Either_doubt c_M_Either_doubt k_M_Either_doubt
  have b_M_Either_doubt := F_M_Either_doubt.binds (ps := ps_M_Either_doubt) fun _ _ _ _ _ _ us hl => match us, hl with | [_, _, _], _ => rfl
  have F_M_Sentence_holds := fun_mk (st := s_M_Sentence_holds) l_M_Sentence_holds c_M_Sentence_holds k_M_Sentence_holds
  have b_M_Sentence_holds := F_M_Sentence_holds.binds (ps := ps_M_Sentence_holds) fun _ _ _ _ _ _ us hl => match us, hl with | [_, _, _], _ => rfl
  refine ⟨PySem.W.fnOf "law" "law" (defArgs s_law) (defBody s_law) (defScope s_law) .none kV9 dc9 pm9 an9 cd9 ct9, fun s v => .of_eq rfl, fun base _ _ => ?_⟩
  have C_L_cell_at : Callee l.prog w K mg base 1 "_law_cell_at" 2 φ_L_cell_at := ⟨_, _, _, ok_L_cell_at F0 m_len, b0, PySem.W.mg_of X G a0, k0⟩
  have C_L_mix : Callee l.prog w K mg base 1 "_law_mix" 2 φ_L_mix := ⟨_, _, _, ok_L_mix F1 , b1, PySem.W.mg_of X G a1, k1⟩
  have C_L_net : Callee l.prog w K mg base 2 "_law_net" 1 φ_L_net := ⟨_, _, _, ok_L_net F2 m_abs m_range C_L_cell_at C_L_mix, b2, PySem.W.mg_of X G a2, k2⟩
  have F_M_Both_init := fund_mk (st := s_M_Both_init) l_M_Both_init c_M_Both_init
  have M_Both_0 : MkOk l.prog w K mg base 1 "Both" ["one", "other"] fs_Both 3 [] := ⟨K_Both, f_M_Both_init, _, ps_M_Both_init, [], [], n_Both, PySem.W.mg_of X G n_Both, Cl_Both, (List.forall_mem_cons.mpr ⟨na_Both_one, (List.forall_mem_cons.mpr ⟨na_Both_other, (fun _ h => nomatch h)⟩)⟩), ⟨mk_Both, in_Both, y_M_Both_init, kp_Both⟩, ok_M_Both_init F_M_Both_init , binds_len 3 rfl fun s us kin hl => match us, hl with | [_, _, _], _ => .of_eq rfl, .nil, fun F => .nil, rfl⟩
  have F_M_Came_init := fund_mk (st := s_M_Came_init) l_M_Came_init c_M_Came_init
  have M_Came_0 : MkOk l.prog w K mg base 1 "Came" ["name", "by"] fs_Came 3 [] := ⟨K_Came, f_M_Came_init, _, ps_M_Came_init, [], [], n_Came, PySem.W.mg_of X G n_Came, Cl_Came, (List.forall_mem_cons.mpr ⟨na_Came_name, (List.forall_mem_cons.mpr ⟨na_Came_by, (fun _ h => nomatch h)⟩)⟩), ⟨mk_Came, in_Came, y_M_Came_init, kp_Came⟩, ok_M_Came_init F_M_Came_init , binds_len 3 rfl fun s us kin hl => match us, hl with | [_, _, _], _ => PySem.W.binds_K kin rfl dt_M_Came_init rfl rfl rfl, .nil, fun F => .nil, rfl⟩
  have M_Came_1 : MkOk l.prog w K mg base 1 "Came" ["name", "by"] fs_Came 3 [.non] := ⟨K_Came, f_M_Came_init, _, ps_M_Came_init, [V.non], [Value.none], n_Came, PySem.W.mg_of X G n_Came, Cl_Came, (List.forall_mem_cons.mpr ⟨na_Came_name, (List.forall_mem_cons.mpr ⟨na_Came_by, (fun _ h => nomatch h)⟩)⟩), ⟨mk_Came, in_Came, y_M_Came_init, kp_Came⟩, ok_M_Came_init F_M_Came_init , binds_len 2 rfl fun s us kin hl => match us, hl with | [_, _], _ => PySem.W.binds_K kin rfl dt_M_Came_init rfl rfl rfl, (.cons rfl .nil), fun F => (.cons (by rw [Rep]) .nil), rfl⟩
  have M_Came_K_by : MkOkK l.prog w K mg base 1 "Came" ["name", "by"] fs_Came 3 ["by"] := ⟨K_Came, f_M_Came_init, _, ps_M_Came_init, n_Came, PySem.W.mg_of X G n_Came, Cl_Came, (List.forall_mem_cons.mpr ⟨na_Came_name, (List.forall_mem_cons.mpr ⟨na_Came_by, (fun _ h => nomatch h)⟩)⟩), ⟨mk_Came, in_Came, y_M_Came_init, kp_Came⟩, ok_M_Came_init F_M_Came_init , kbind_len 2 rfl fun s us ws kin hl hw => match us, hl, ws, hw with | [_, _], _, [_], _ => PySem.W.binds_K kin rfl dt_M_Came_init rfl rfl rfl, rfl⟩
  have F_M_Either_init := fund_mk (st := s_M_Either_init) l_M_Either_init c_M_Either_init
  have M_Either_0 : MkOk l.prog w K mg base 1 "Either" ["one", "other"] fs_Either 3 [] := ⟨K_Either, f_M_Either_init, _, ps_M_Either_init, [], [], n_Either, PySem.W.mg_of X G n_Either, Cl_Either, (List.forall_mem_cons.mpr ⟨na_Either_one, (List.forall_mem_cons.mpr ⟨na_Either_other, (fun _ h => nomatch h)⟩)⟩), ⟨mk_Either, in_Either, y_M_Either_init, kp_Either⟩, ok_M_Either_init F_M_Either_init , binds_len 3 rfl fun s us kin hl => match us, hl with | [_, _, _], _ => .of_eq rfl, .nil, fun F => .nil, rfl⟩
  have R_L_object : ∀ n, Callee l.prog w K mg base (2 + n) "_law_object" 1 (φ_L_object n) := by
    intro n; induction n with
    | zero => exact ⟨_, _, ps_L_object, fn_no (fun _ => rfl), b3, PySem.W.mg_of X G a3, k3⟩
    | succ n ih => exact ⟨_, _, _, ok_L_object F3 M_Both_0 M_Came_0 M_Came_1 M_Came_K_by M_Either_0 ih, b3, PySem.W.mg_of X G a3, k3⟩
  have C_L_object : Callee l.prog w K mg base 14 "_law_object" 1 (φ_L_object 12) := R_L_object 12
  have R_L_due : ∀ n, Callee l.prog w K mg base (0 + n) "_law_due" 2 (φ_L_due n) := by
    intro n; induction n with
    | zero => exact ⟨_, _, ps_L_due, fn_no (fun _ => rfl), b4, PySem.W.mg_of X G a4, k4⟩
    | succ n ih => exact ⟨_, _, _, ok_L_due F4  ih, b4, PySem.W.mg_of X G a4, k4⟩
  have C_L_due : Callee l.prog w K mg base 12 "_law_due" 2 (φ_L_due 12) := R_L_due 12
  have R_doubt : ∀ n, DispOk l.prog w K mg base (0 + n) "doubt" 3 (tab_doubt n) := by
    intro n; induction n with
    | zero => exact disp_nil
    | succ n ih => exact (disp_cons n_Sentence Cl_Sentence ⟨me_Sentence_doubt, y_M_Sentence_doubt, k_M_Sentence_doubt⟩ (ok_M_Sentence_doubt F_M_Sentence_doubt  ih) (by omega) b_M_Sentence_doubt (disp_cons n_Came Cl_Came ⟨me_Came_doubt, y_M_Came_doubt, k_M_Came_doubt⟩ (ok_M_Came_doubt F_M_Came_doubt FO_Came_by FO_Came_name ih) (by omega) b_M_Came_doubt (disp_cons n_Both Cl_Both ⟨me_Both_doubt, y_M_Both_doubt, k_M_Both_doubt⟩ (ok_M_Both_doubt F_M_Both_doubt FO_Both_one FO_Both_other ih) (by omega) b_M_Both_doubt (disp_cons n_Either Cl_Either ⟨me_Either_doubt, y_M_Either_doubt, k_M_Either_doubt⟩ (ok_M_Either_doubt F_M_Either_doubt FO_Either_one FO_Either_other ih) (by omega) b_M_Either_doubt disp_nil))))
  have D_doubt : DispOk l.prog w K mg base 12 "doubt" 3 (tab_doubt 12) := R_doubt 12
  have D_holds : DispOk l.prog w K mg base 13 "holds" 3 tab_holds := (disp_cons n_Sentence Cl_Sentence ⟨me_Sentence_holds, y_M_Sentence_holds, k_M_Sentence_holds⟩ (ok_M_Sentence_holds F_M_Sentence_holds D_doubt) (by decide) b_M_Sentence_holds (disp_cons n_Came Cl_Came ⟨me_Came_holds, y_M_Sentence_holds, k_M_Sentence_holds⟩ (ok_M_Sentence_holds F_M_Sentence_holds D_doubt) (by decide) b_M_Sentence_holds (disp_cons n_Both Cl_Both ⟨me_Both_holds, y_M_Sentence_holds, k_M_Sentence_holds⟩ (ok_M_Sentence_holds F_M_Sentence_holds D_doubt) (by decide) b_M_Sentence_holds (disp_cons n_Either Cl_Either ⟨me_Either_holds, y_M_Sentence_holds, k_M_Sentence_holds⟩ (ok_M_Sentence_holds F_M_Sentence_holds D_doubt) (by decide) b_M_Sentence_holds disp_nil))))
  have C_L_right : Callee l.prog w K mg base 14 "_law_right" 4 φ_L_right := ⟨_, _, _, ok_L_right F5 m_bool m_isinstance m_tuple C_L_due D_doubt D_holds, b5, PySem.W.mg_of X G a5, k5⟩
  have C_L_signs : Callee l.prog w K mg base 2 "_law_signs" 3 φ_L_signs := ⟨_, _, _, ok_L_signs F6 m_range C_L_cell_at C_L_mix, b6, PySem.W.mg_of X G a6, k6⟩
  have C_L_tale : Callee l.prog w K mg base 3 "_law_tale" 2 φ_L_tale := ⟨_, _, _, ok_L_tale F7 m_min m_range C_L_cell_at C_L_mix C_L_signs, b7, PySem.W.mg_of X G a7, k7⟩
  have R_L_tree : ∀ n, Callee l.prog w K mg base (1 + n) "_law_tree" 4 (φ_L_tree n) := by
    intro n; induction n with
    | zero => exact ⟨_, _, ps_L_tree, fn_no (fun _ => rfl), b8, PySem.W.mg_of X G a8, k8⟩
    | succ n ih => exact ⟨_, _, _, ok_L_tree F8 m_len C_L_cell_at C_L_mix ih, b8, PySem.W.mg_of X G a8, k8⟩
  have C_L_tree : Callee l.prog w K mg base 13 "_law_tree" 4 (φ_L_tree 12) := R_L_tree 12
  have F_M_Knows_init := fund_mk (st := s_M_Knows_init) l_M_Knows_init c_M_Knows_init
  have M_Knows_0 : MkOk l.prog w K mg base 1 "Knows" ["house", "turn", "inside"] fs_Knows 4 [] := ⟨K_Knows, f_M_Knows_init, _, ps_M_Knows_init, [], [], n_Knows, PySem.W.mg_of X G n_Knows, Cl_Knows, (List.forall_mem_cons.mpr ⟨na_Knows_house, (List.forall_mem_cons.mpr ⟨na_Knows_turn, (List.forall_mem_cons.mpr ⟨na_Knows_inside, (fun _ h => nomatch h)⟩)⟩)⟩), ⟨mk_Knows, in_Knows, y_M_Knows_init, kp_Knows⟩, ok_M_Knows_init F_M_Knows_init , binds_len 4 rfl fun s us kin hl => match us, hl with | [_, _, _, _], _ => .of_eq rfl, .nil, fun F => .nil, rfl⟩
  have W_Sentence : ∃ C, PySem.W.nsIn K mainGlobals "Sentence" = some (some (.ref C)) ∧ mg "Sentence" = some (.ref C) ∧ Mk0 K C := ⟨K_Sentence, n_Sentence, PySem.W.mg_of X G n_Sentence, ⟨mk_Sentence, in_Sentence, kp_Sentence⟩⟩
  have F_M_Shared_init := fund_mk (st := s_M_Shared_init) l_M_Shared_init c_M_Shared_init
  have M_Shared_0 : MkOk l.prog w K mg base 1 "Shared" ["houses", "turn", "inside"] fs_Shared 4 [] := ⟨K_Shared, f_M_Shared_init, _, ps_M_Shared_init, [], [], n_Shared, PySem.W.mg_of X G n_Shared, Cl_Shared, (List.forall_mem_cons.mpr ⟨na_Shared_houses, (List.forall_mem_cons.mpr ⟨na_Shared_turn, (List.forall_mem_cons.mpr ⟨na_Shared_inside, (fun _ h => nomatch h)⟩)⟩)⟩), ⟨mk_Shared, in_Shared, y_M_Shared_init, kp_Shared⟩, ok_M_Shared_init F_M_Shared_init m_list, binds_len 4 rfl fun s us kin hl => match us, hl with | [_, _, _, _], _ => .of_eq rfl, .nil, fun F => .nil, rfl⟩
  exact ok_law F9 m_isinstance m_list C_L_net C_L_object C_L_right C_L_tale C_L_tree D_doubt D_holds M_Both_0 M_Came_1 M_Either_0 M_Knows_0 W_Sentence M_Shared_0 IS_Sentence
theorem walk {l : PySem.W.OpenLaw} {q : Program} {loose : List Str} {XP : (Str → Option Value) → Heap → Prop} {YP : World → Heap → Prop} {d : DefRec} {K : Params → PySem.W.Frag} (hn : l.most = some 63) (hdf : d.params.defaults = [])
    (hY : ∀ (w : World) (h : Heap), YP w h → (K w.params).In h)
    (F : ∀ (w : World) (mg : Str → Option Value) (fa : Addr) (h : Heap), (K w.params).In h → h.Ns mainGlobals mg → mg d.name = some (.ref fa) →
      ∃ fd : FuncData, (∀ (s : Shared) (u : Value), BindsTo s fd ⟨[u], []⟩ [("_law_script", u)]) ∧ ∀ base : Heap, (K w.params).In base → base.Ns mainGlobals mg → FnOk l.prog w (K w.params) mg base CX0 15 fa fd ["_law_script"] (spV0 (K w.params) φ_law 1)) :
    PySem.W.WalkO q loose XP YP l.row.toRowW d [] (fun f vs => PySem.call f vs) :=
  L2.walk_ofK (n := 63) (k := 15) (x := "_law_script") (CX := CX0) (sp := fun K => spV0 K φ_law 1) hn (by decide) hdf ⟨rfl, by decide, by decide⟩ hY F
    (fun K H a ns hl _ hS => L3.law_sp hS (law_ok ns hl)) fun _ _ _ _ z => z

end My
open PySem PySem.W PyProof.Rows
set_option maxRecDepth 100000 in
set_option maxHeartbeats 0 in
theorem PySem.Challenge.cw_hearsay_k31_came_both_either_holds : PySem.Challenge.rw_hearsay_k31_came_both_either.Holds := by
  w_on; o_law; k_head; (case hw => w_witness2)
  k_fill
  refine My.walk (l := PySem.Challenge.rw_hearsay_k31_came_both_either) rfl rfl (fun w h Y => PySem.W.kIn_of Y) ?F
  case F =>
    intro w mg fa h KX G hmg
    refine' My.all_mk KX G hmg ?a0 ?l0 ?c0 ?k0 ?a1 ?l1 ?c1 ?k1 ?a2 ?l2 ?c2 ?k2 ?a3 ?l3 ?c3 ?k3 ?a4 ?l4 ?c4 ?k4 ?a5 ?l5 ?c5 ?k5 ?a6 ?l6 ?c6 ?k6 ?a7 ?l7 ?c7 ?k7 ?a8 ?l8 ?c8 ?k8 ?a9 ?l9 ?c9 ?k9 ?z_abs ?z_bool ?z_isinstance ?z_len ?z_list ?z_min ?z_range ?z_tuple ?n_Sentence ?n_Came ?n_Both ?n_Either ?n_Knows ?n_Shared ?pg_Sentence ?hd_Sentence ?po_Sentence ?sa_Sentence ?pg_Came ?hd_Came ?po_Came ?sa_Came ?na_Came_name ?na_Came_by ?pg_Both ?hd_Both ?po_Both ?sa_Both ?na_Both_one ?na_Both_other ?pg_Either ?hd_Either ?po_Either ?sa_Either ?na_Either_one ?na_Either_other ?pg_Knows ?hd_Knows ?po_Knows ?sa_Knows ?na_Knows_house ?na_Knows_turn ?na_Knows_inside ?pg_Shared ?hd_Shared ?po_Shared ?sa_Shared ?na_Shared_houses ?na_Shared_turn ?na_Shared_inside ?mk_Both ?kp_Both ?in_Both ?l_M_Both_init ?c_M_Both_init ?k_M_Both_init ?y_M_Both_init ?mk_Came ?kp_Came ?in_Came ?l_M_Came_init ?c_M_Came_init ?k_M_Came_init ?y_M_Came_init ?dt_M_Came_init ?mk_Either ?kp_Either ?in_Either ?l_M_Either_init ?c_M_Either_init ?k_M_Either_init ?y_M_Either_init ?me_Sentence_doubt ?l_M_Sentence_doubt ?c_M_Sentence_doubt ?k_M_Sentence_doubt ?y_M_Sentence_doubt ?me_Came_doubt ?l_M_Came_doubt ?c_M_Came_doubt ?k_M_Came_doubt ?y_M_Came_doubt ?me_Both_doubt ?l_M_Both_doubt ?c_M_Both_doubt ?k_M_Both_doubt ?y_M_Both_doubt ?me_Either_doubt ?l_M_Either_doubt ?c_M_Either_doubt ?k_M_Either_doubt ?y_M_Either_doubt ?me_Sentence_holds ?l_M_Sentence_holds ?c_M_Sentence_holds ?k_M_Sentence_holds ?y_M_Sentence_holds ?me_Came_holds ?me_Both_holds ?me_Either_holds ?mk_Knows ?kp_Knows ?in_Knows ?l_M_Knows_init ?c_M_Knows_init ?k_M_Knows_init ?y_M_Knows_init ?mk_Sentence ?kp_Sentence ?in_Sentence ?mk_Shared ?kp_Shared ?in_Shared ?l_M_Shared_init ?c_M_Shared_init ?k_M_Shared_init ?y_M_Shared_init ?hcn ?hct ?ha_Sentence ?hm_Sentence ?kt_Sentence_Sentence ?ha_Came ?hm_Came ?kt_Sentence_Came ?ha_Both ?hm_Both ?kt_Sentence_Both ?ha_Either ?hm_Either ?kt_Sentence_Either ?ha_Knows ?hm_Knows ?kt_Sentence_Knows ?ha_Shared ?hm_Shared ?kt_Sentence_Shared
    (case a0 => k_is)
    (case l0 => k_is)
    (case c0 => k_is)
    (case k0 => k_is)
    (case a1 => k_is)
    (case l1 => k_is)
    (case c1 => k_is)
    (case k1 => k_is)
    (case a2 => k_is)
    (case l2 => k_is)
    (case c2 => k_is)
    (case k2 => k_is)
    (case a3 => k_is)
    (case l3 => k_is)
    (case c3 => k_is)
    (case k3 => k_is)
    (case a4 => k_is)
    (case l4 => k_is)
    (case c4 => k_is)
    (case k4 => k_is)
    (case a5 => k_is)
    (case l5 => k_is)
    (case c5 => k_is)
    (case k5 => k_is)
    (case a6 => k_is)
    (case l6 => k_is)
    (case c6 => k_is)
    (case k6 => k_is)
    (case a7 => k_is)
    (case l7 => k_is)
    (case c7 => k_is)
    (case k7 => k_is)
    (case a8 => k_is)
    (case l8 => k_is)
    (case c8 => k_is)
    (case k8 => k_is)
    (case a9 => k_is)
    (case l9 => k_is)
    (case c9 => k_is)
    (case k9 => k_is)
    (case z_abs => k_is)
    (case z_bool => k_is)
    (case z_isinstance => k_is)
    (case z_len => k_is)
    (case z_list => k_is)
    (case z_min => k_is)
    (case z_range => k_is)
    (case z_tuple => k_is)
    (case n_Sentence => k_is)
    (case n_Came => k_is)
    (case n_Both => k_is)
    (case n_Either => k_is)
    (case n_Knows => k_is)
    (case n_Shared => k_is)
    (case pg_Sentence => k_is)
    (case hd_Sentence => k_is)
    (case po_Sentence => k_is)
    (case sa_Sentence => k_is)
    (case pg_Came => k_is)
    (case hd_Came => k_is)
    (case po_Came => k_is)
    (case sa_Came => k_is)
    (case na_Came_name => k_is)
    (case na_Came_by => k_is)
    (case pg_Both => k_is)
    (case hd_Both => k_is)
    (case po_Both => k_is)
    (case sa_Both => k_is)
    (case na_Both_one => k_is)
    (case na_Both_other => k_is)
    (case pg_Either => k_is)
    (case hd_Either => k_is)
    (case po_Either => k_is)
    (case sa_Either => k_is)
    (case na_Either_one => k_is)
    (case na_Either_other => k_is)
    (case pg_Knows => k_is)
    (case hd_Knows => k_is)
    (case po_Knows => k_is)
    (case sa_Knows => k_is)
    (case na_Knows_house => k_is)
    (case na_Knows_turn => k_is)
    (case na_Knows_inside => k_is)
    (case pg_Shared => k_is)
    (case hd_Shared => k_is)
    (case po_Shared => k_is)
    (case sa_Shared => k_is)
    (case na_Shared_houses => k_is)
    (case na_Shared_turn => k_is)
    (case na_Shared_inside => k_is)
    (case mk_Both => k_is)
    (case kp_Both => k_is)
    (case in_Both => k_is)
    (case l_M_Both_init => k_is)
    (case c_M_Both_init => k_is)
    (case k_M_Both_init => k_is)
    (case y_M_Both_init => k_is)
    (case mk_Came => k_is)
    (case kp_Came => k_is)
    (case in_Came => k_is)
    (case l_M_Came_init => k_is)
    (case c_M_Came_init => k_is)
    (case k_M_Came_init => k_is)
    (case y_M_Came_init => k_is)
    (case dt_M_Came_init => k_is)
    (case mk_Either => k_is)
    (case kp_Either => k_is)
    (case in_Either => k_is)
    (case l_M_Either_init => k_is)
    (case c_M_Either_init => k_is)
    (case k_M_Either_init => k_is)
    (case y_M_Either_init => k_is)
    (case me_Sentence_doubt => k_is)
    (case l_M_Sentence_doubt => k_is)
    (case c_M_Sentence_doubt => k_is)
    (case k_M_Sentence_doubt => k_is)
    (case y_M_Sentence_doubt => k_is)
    (case me_Came_doubt => k_is)
    (case l_M_Came_doubt => k_is)
    (case c_M_Came_doubt => k_is)
    (case k_M_Came_doubt => k_is)
    (case y_M_Came_doubt => k_is)
    (case me_Both_doubt => k_is)
    (case l_M_Both_doubt => k_is)
    (case c_M_Both_doubt => k_is)
    (case k_M_Both_doubt => k_is)
    (case y_M_Both_doubt => k_is)
    (case me_Either_doubt => k_is)
    (case l_M_Either_doubt => k_is)
    (case c_M_Either_doubt => k_is)
    (case k_M_Either_doubt => k_is)
    (case y_M_Either_doubt => k_is)
    (case me_Sentence_holds => k_is)
    (case l_M_Sentence_holds => k_is)
    (case c_M_Sentence_holds => k_is)
    (case k_M_Sentence_holds => k_is)
    (case y_M_Sentence_holds => k_is)
    (case me_Came_holds => k_is)
    (case me_Both_holds => k_is)
    (case me_Either_holds => k_is)
    (case mk_Knows => k_is)
    (case kp_Knows => k_is)
    (case in_Knows => k_is)
    (case l_M_Knows_init => k_is)
    (case c_M_Knows_init => k_is)
    (case k_M_Knows_init => k_is)
    (case y_M_Knows_init => k_is)
    (case mk_Sentence => k_is)
    (case kp_Sentence => k_is)
    (case in_Sentence => k_is)
    (case mk_Shared => k_is)
    (case kp_Shared => k_is)
    (case in_Shared => k_is)
    (case l_M_Shared_init => k_is)
    (case c_M_Shared_init => k_is)
    (case k_M_Shared_init => k_is)
    (case y_M_Shared_init => k_is)
    (case hcn => k_is)
    (case hct => k_is)
    (case ha_Sentence => k_is)
    (case hm_Sentence => k_is)
    (case kt_Sentence_Sentence => kit_is)
    (case ha_Came => k_is)
    (case hm_Came => k_is)
    (case kt_Sentence_Came => kit_is)
    (case ha_Both => k_is)
    (case hm_Both => k_is)
    (case kt_Sentence_Both => kit_is)
    (case ha_Either => k_is)
    (case hm_Either => k_is)
    (case kt_Sentence_Either => kit_is)
    (case ha_Knows => k_is)
    (case hm_Knows => k_is)
    (case kt_Sentence_Knows => kit_is)
    (case ha_Shared => k_is)
    (case hm_Shared => k_is)
    (case kt_Sentence_Shared => kit_is)


