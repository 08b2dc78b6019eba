import PyProof.Rows.All
import Wide.All
import OpenK.AllK
import Wide.FinOn
import Lean
import PyProof.EqAt
import PyProof.EqKinds
import PyProof.TupleCall
import KE.KSortTup
import PyProof.Rows.CountFlat
import PyProof.SliceStr2
import KE.RegKIsAll
import PySem.Challenge.RW_hearsay_k01_nets_refused
set_option Elab.async false
set_option linter.all false
set_option maxRecDepth 100000
namespace L2
open PySem PySem.Spec PyProof.Rows
abbrev Key := Sum Int Str
def keyIs : Key → Value → Bool
  | .inl k, v => Value.isInt k v
  | .inr x, v => Value.isStrOf x v
def keyH (w : World) : Key → Int
  | .inl k => hashInt k
  | .inr x => hashStr w x
theorem keyIs_shape : ∀ {k : Key} {v : Value}, keyIs k v = true → (∃ i t, k = Sum.inl i ∧ v = Value.int i t) ∨ (∃ x t, k = Sum.inr x ∧ v = Value.str x t)
  | .inl i, v, h => by
    obtain ⟨t, e⟩ := Value.isInt_shape (k := i) (v := v) h
    exact .inl ⟨i, t, rfl, e⟩
  | .inr x, v, h => by
    obtain ⟨t, e⟩ := Value.isStrOf_shape (x := x) (v := v) h
    exact .inr ⟨x, t, rfl, e⟩
theorem keyIs_int (i : Int) (t : Tok) : keyIs (.inl i) (.int i t) = true := by simp [keyIs, Value.isInt]
theorem keyIs_str (x : Str) (t : Tok) : keyIs (.inr x) (.str x t) = true := by simp [keyIs, Value.isStrOf]
theorem key_ll (a b : Int) : decide ((Sum.inl a : Key) = Sum.inl b) = (a == b) := by
  by_cases e : a = b
  · subst e; simp
  · have h : ¬ (Sum.inl a : Key) = Sum.inl b := fun q => e (Sum.inl.inj q)
    rw [decide_eq_false h]
    exact (beq_eq_false_iff_ne.mpr e).symm
theorem key_rr (a b : Str) : decide ((Sum.inr a : Key) = Sum.inr b) = decide (a = b) := by
  by_cases e : a = b
  · subst e; simp
  · have h : ¬ (Sum.inr a : Key) = Sum.inr b := fun q => e (Sum.inr.inj q)
    rw [decide_eq_false h, decide_eq_false e]
theorem key_lr (a : Int) (b : Str) : decide ((Sum.inl a : Key) = Sum.inr b) = false := decide_eq_false (fun q => nomatch q)
theorem key_rl (a : Str) (b : Int) : decide ((Sum.inr a : Key) = Sum.inl b) = false := decide_eq_false (fun q => nomatch q)

def mixKind (prog : Program) (w : World) : PySem.KeyKind prog w Key where
  is := keyIs
  hash := keyH w
  inj := fun v a b ha hb => by
    rcases keyIs_shape ha with ⟨i, t, rfl, rfl⟩ | ⟨x, t, rfl, rfl⟩
    · rcases keyIs_shape hb with ⟨j, u, rfl, e⟩ | ⟨y, u, rfl, e⟩
      · injection e with e1 _; rw [e1]
      · exact nomatch e
    · rcases keyIs_shape hb with ⟨j, u, rfl, e⟩ | ⟨y, u, rfl, e⟩
      · exact nomatch e
      · injection e with e1 _; rw [e1]
  byValue := fun k v h => by
    rcases keyIs_shape h with ⟨i, t, rfl, rfl⟩ | ⟨x, t, rfl, rfl⟩ <;> rfl
  pyHash := fun hv h => by
    rcases keyIs_shape hv with ⟨i, t, rfl, rfl⟩ | ⟨x, t, rfl, rfl⟩
    · exact wpAny_pyHash_int h
    · exact wpAny_pyHash_str h
  eqBool := fun hu hv h => by
    rcases keyIs_shape hu with ⟨i, t, rfl, rfl⟩ | ⟨x, t, rfl, rfl⟩
    · rcases keyIs_shape hv with ⟨j, u, rfl, rfl⟩ | ⟨y, u, rfl, rfl⟩
      · rw [key_ll] at h; exact wpAny_eqBool_int h
      · rw [key_lr] at h; exact SeqAt.EqAt.int_str i t y u _ _ _ _ h
    · rcases keyIs_shape hv with ⟨j, u, rfl, rfl⟩ | ⟨y, u, rfl, rfl⟩
      · rw [key_rl] at h; exact SeqAt.EqAt.str_int x t j u _ _ _ _ h
      · rw [key_rr] at h; exact wpAny_eqBool_str h
  «strs» := fun k x t v h => by
    rcases keyIs_shape h with ⟨i, u, rfl, e⟩ | ⟨y, u, rfl, e⟩
    · exact nomatch e
    · injection e with e1 _
      subst e1
      cases v <;> rfl

theorem mixKind_int (prog : Program) (w : World) (i : Int) (t : Tok) : (mixKind prog w).is (.inl i) (.int i t) = true := keyIs_int i t
theorem mixKind_str (prog : Program) (w : World) (x : Str) (t : Tok) : (mixKind prog w).is (.inr x) (.str x t) = true := keyIs_str x t
end L2
namespace L2
open PySem PySem.Spec PyProof.Rows
inductive V where
  | non | bl (b : Bool) | int (i : Int) | str (x : Str) | byt (b : Array UInt8) | flt (b : UInt64) | ref (a : Addr) | ty (n : String)
  deriving DecidableEq

def RelV : V → Value → Prop
  | .non, u => u = Value.none
  | .bl b, u => u = Value.bool b
  | .int i, u => ∃ t, u = Value.int i t
  | .str x, u => ∃ t, u = Value.str x t
  | .byt b, u => ∃ t, u = Value.bytes b t
  | .flt b, u => ∃ t, u = Value.float b t
  | .ref a, u => u = Value.ref a
  | .ty n, u => u = Value.type n

abbrev Vals : List V → List Value → Prop := Paired RelV
theorem Vals.length {xs : List V} {us : List Value} (r : Vals xs us) : xs.length = us.length := Paired.length r
theorem Vals.get : ∀ {xs : List V} {us : List Value} {i : Nat} {x : V}, Vals xs us → xs[i]? = some x → ∃ u, us[i]? = some u ∧ RelV x u
  | _, _, _, _, .nil, e => by simp at e
  | _, _, 0, _, .cons r _, e => by simp at e; subst e; exact ⟨_, rfl, r⟩
  | _, _, i + 1, x, .cons _ t, e => by
    obtain ⟨u, h1, h2⟩ := Vals.get (i := i) (x := x) t (by simpa using e)
    exact ⟨u, by simpa using h1, h2⟩
theorem Vals.set {x : V} {u : Value} (r : RelV x u) : ∀ {xs : List V} {us : List Value} (i : Nat), Vals xs us → Vals (xs.set i x) (us.set i u)
  | _, _, _, .nil => .nil
  | _, _, 0, .cons _ t => .cons r t
  | _, _, i + 1, .cons q t => .cons q (Vals.set r i t)
theorem Vals.append : ∀ {xs ys : List V} {us ws : List Value}, Vals xs us → Vals ys ws → Vals (xs ++ ys) (us ++ ws)
  | _, _, _, _, .nil, s => s
  | _, _, _, _, .cons r t, s => .cons r (Vals.append t s)
theorem Vals.take : ∀ {xs : List V} {us : List Value} (n : Nat), Vals xs us → Vals (xs.take n) (us.take n)
  | _, _, 0, _ => .nil
  | _, _, _ + 1, .nil => .nil
  | _, _, n + 1, .cons r t => .cons r (Vals.take n t)
theorem Vals.drop : ∀ {xs : List V} {us : List Value} (n : Nat), Vals xs us → Vals (xs.drop n) (us.drop n)
  | _, _, 0, r => r
  | _, _, _ + 1, .nil => .nil
  | _, _, n + 1, .cons _ t => Vals.drop n t
def RelO : Option V → Option Value → Prop
  | some v, some u => RelV v u
  | none, none => True
  | _, _ => False
def KV {κ : Type} : List (κ × V) → List (κ × Value) → Prop := Paired fun (p : κ × V) (q : κ × Value) => p.1 = q.1 ∧ RelV p.2 q.2

def kV : Key → V
  | .inl i => .int i
  | .inr x => .str x

inductive HO where
  /-- a list -/
  | lst (xs : List V)
  /-- a tuple (never changes) -/
  | tup (xs : List V)
  /-- a dict whose keys are ints and texts; one whose keys are tuples of ints and texts (the empty one is both) -/
  | dK (kvs : List (Key × V)) | dT (kvs : List (List Key × V))
  /-- a set of ints: its members, its size -/
  | set (S : Int → Bool) (n : Nat)
  /-- an instance of the class at C, its dict at dx, its attributes -/
  | ins (C dx : Addr) (fs : List (Str × V))
  /-- the dict of the instance at x -/
  | own (x : Addr)
  /-- the dict of an exception -/
  | xd (fs : List (Str × V))
  /-- a bound method, f of x -/
  | met (f x : Addr)
  /-- a range object lo, lo + 1, .. below hi -/
  | rng (lo hi : Int)
  /-- a thing that is known to the object (the script; a dict while a loop walks it): read, never written while it is so -/
  | frz (o : Obj) (u : HO)
  /-- a code object's table -/
  | tbl (ps : Array Value)
  /-- any other thing, by what is true of its one object (a def of one's own: SetO a S n := HO.ext fun h => ..) -/
  | ext (φ : Heap → Prop)

abbrev Hp := Addr → Option HO
def upd (H : Hp) (a : Addr) (o : HO) : Hp := fun b => if b = a then some o else H b
theorem upd_same {H : Hp} {a : Addr} {o : HO} : upd H a o a = some o := by unfold upd; rw [if_pos rfl]
theorem upd_ne {H : Hp} {a b : Addr} {o : HO} (h : b ≠ a) : upd H a o b = H b := by unfold upd; rw [if_neg h]
theorem ne_of_none {H : Hp} {a b : Addr} {o : HO} (h : H a = some o) (h' : H b = none) : a ≠ b := by
  intro e; subst e; rw [h] at h'; cases h'

section
variable (P : Program) (w : World)
def ObjOk (H : Hp) (h : Heap) (a : Addr) : HO → Prop
  | .lst xs => xs.length ≤ sizeLine ∧ ∃ (its : List Value) (n : Nat), Vals xs its ∧ h.get? a = some { cls := .type "list", data := .seq its.toArray n }
  | .tup xs => xs.length ≤ sizeLine ∧ ∃ its : List Value, Vals xs its ∧ IsTup h a its.toArray
  | .dK kvs => kvs.length ≤ sizeLine ∧ (a == sysModules) = false ∧ ∃ vs, KV kvs vs ∧ h.DictOf (mixKind P w) a vs
  | .dT kvs => kvs.length ≤ sizeLine ∧ (a == sysModules) = false ∧ ∃ xs : List (List Key × Addr × Value),
      Paired (fun (p : List Key × V) (q : List Key × Addr × Value) => p.1 = q.1 ∧ H q.2.1 = some (.tup (p.1.map kV)) ∧ RelV p.2 q.2.2) kvs xs ∧
      ∃ o es ep, h.get? a = some o ∧ o.ExactDict ∧ o.data = .dict es ep ∧ es.toList = xs.map (entryOfKey (tupleKind (mixKind P w))) ∧ (xs.map (·.1)).Nodup
  | .set S n => h.SetOf (intKind P w) a S n
  | .ins C dx fs => H dx = some (.own a) ∧ fs.length ≤ 1000 ∧ dx ≠ a ∧ h.get? a = some (PySem.W.instObj C dx) ∧
      ∃ mA, h.Ns1 dx mA ∧ (∀ f, RelO (fs.lookup f) (mA f)) ∧ PySem.Within mA (fs.map (·.1))
  | .own _ => ∃ o, h.get? a = some o
  | .xd fs => ∃ mA, h.Ns1 a mA ∧ ∀ f, RelO (fs.lookup f) (mA f)
  | .rng lo hi => ∃ t u v, h.get? a = some { cls := .type "range", data := .fields #[.int lo t, .int hi u, .int 1 v] }
  | .frz o u => h.get? a = some o ∧ ObjOk H h a u
  | .tbl ps => h.get? a = some { cls := .none, data := .fields ps }
  | .met f x => h.get? a = some (PySem.W.methodObj (.ref f) (.ref x))
  | .ext φ => φ h ∧ (∃ o, h.get? a = some o) ∧ ∀ h1 h2 : Heap, φ h1 → (∀ o, h1.get? a = some o → h2.get? a = some o) → φ h2
def HOk (H : Hp) (h : Heap) : Prop := ∀ a o, H a = some o → ObjOk P w H h a o
end
section
variable {P : Program} {w : World} {H H' : Hp} {h h' : Heap} {a : Addr} {o : HO}
theorem ObjOk.lt (x : ObjOk P w H h a o) : a < h.objs.size := by
  cases o with
  | lst xs => obtain ⟨_, _, _, _, e⟩ := x; exact Heap.lt_size e
  | tup xs => obtain ⟨_, _, _, p⟩ := x; exact p.lt
  | dK kvs => obtain ⟨_, _, _, _, o, _, _, e, _⟩ := x; exact Heap.lt_size e
  | dT kvs => obtain ⟨_, _, _, _, o, _, _, e, _⟩ := x; exact Heap.lt_size e
  | set S n => obtain ⟨o, _, _, _, e, _⟩ := x; exact Heap.lt_size e
  | ins C dx fs => obtain ⟨_, _, _, e, _⟩ := x; exact Heap.lt_size e
  | own y => obtain ⟨_, e⟩ := x; exact Heap.lt_size e
  | xd fs => obtain ⟨_, ⟨_, _, _, e, _⟩, _⟩ := x; exact Heap.lt_size e
  | rng lo hi => obtain ⟨_, _, _, e⟩ := x; exact Heap.lt_size e
  | frz ob u => obtain ⟨e, _⟩ := x; exact Heap.lt_size e
  | tbl ps => exact Heap.lt_size (show h.get? a = some _ from x)
  | met f y => exact Heap.lt_size (show h.get? a = some _ from x)
  | ext φ => obtain ⟨_, ⟨_, e⟩, _⟩ := x; exact Heap.lt_size e
theorem Paired.mapP {α β : Type} {F G : α → β → Prop} : ∀ {l₁ : List α} {l₂ : List β}, Paired F l₁ l₂ → (∀ a b, F a b → G a b) → Paired G l₁ l₂
  | _, _, .nil, _ => .nil
  | _, _, .cons r t, f => .cons (f _ _ r) (Paired.mapP t f)
theorem ObjOk.stay (x : ObjOk P w H h a o) (k : ∀ b u, (b = a ∨ H b = some (.own a)) → h.get? b = some u → h'.get? b = some u)
    (ho : ∀ b, H b = some (.own a) → H' b = some (.own a)) (ht : ∀ b xs, H b = some (.tup xs) → H' b = some (.tup xs)) : ObjOk P w H' h' a o := by
  induction o with
  | lst xs => obtain ⟨z, its, n, r, e⟩ := x; exact ⟨z, its, n, r, k _ _ (.inl rfl) e⟩
  | tup xs => obtain ⟨z, its, r, ob, e, c⟩ := x; exact ⟨z, its, r, ob, k _ _ (.inl rfl) e, c⟩
  | dK kvs => obtain ⟨z, y, vs, r, ob, es, ep, e, c⟩ := x; exact ⟨z, y, vs, r, ob, es, ep, k _ _ (.inl rfl) e, c⟩
  | dT kvs =>
    obtain ⟨z, y, xs, r, ob, es, ep, e, c⟩ := x
    exact ⟨z, y, xs, Paired.mapP r fun p q z => ⟨z.1, ht _ _ z.2.1, z.2.2⟩, ob, es, ep, k _ _ (.inl rfl) e, c⟩
  | set S n => obtain ⟨ob, es, ep, t, e, c⟩ := x; exact ⟨ob, es, ep, t, k _ _ (.inl rfl) e, c⟩
  | ins C dx fs =>
    obtain ⟨d, z, ne, e, mA, ⟨od, es, ep, e2, c⟩, r⟩ := x
    exact ⟨ho _ d, z, ne, k _ _ (.inl rfl) e, mA, ⟨od, es, ep, k _ _ (.inr d) e2, c⟩, r⟩
  | own y => obtain ⟨ob, e⟩ := x; exact ⟨ob, k _ _ (.inl rfl) e⟩
  | xd fs => obtain ⟨mA, ⟨od, es, ep, e, c⟩, r⟩ := x; exact ⟨mA, ⟨od, es, ep, k _ _ (.inl rfl) e, c⟩, r⟩
  | rng lo hi => obtain ⟨t, u, v, e⟩ := x; exact ⟨t, u, v, k _ _ (.inl rfl) e⟩
  | frz ob u ih => obtain ⟨e, q⟩ := x; exact ⟨k _ _ (.inl rfl) e, ih q⟩
  | tbl ps =>
    have e : h.get? a = some { cls := .none, data := .fields ps } := x
    show h'.get? a = some { cls := .none, data := .fields ps }
    exact k a _ (.inl rfl) e
  | met f y =>
    have e : h.get? a = some (PySem.W.methodObj (.ref f) (.ref y)) := x
    show h'.get? a = some (PySem.W.methodObj (.ref f) (.ref y))
    exact k a _ (.inl rfl) e
  | ext φ => obtain ⟨p, ⟨o, e⟩, st⟩ := x; exact ⟨st _ _ p fun o q => k _ _ (.inl rfl) q, ⟨o, k _ _ (.inl rfl) e⟩, st⟩
theorem HOk.lt (x : HOk P w H h) (e : H a = some o) : a < h.objs.size := (x a o e).lt
theorem HOk.fresh (x : HOk P w H h) (e : h.objs.size ≤ a) : H a = none := by
  cases q : H a with
  | none => rfl
  | some u => exact absurd (Nat.lt_of_lt_of_le (x.lt q) e) (Nat.lt_irrefl _)
theorem HOk.kept (x : HOk P w H h) (k : ∀ b u, h.get? b = some u → h'.get? b = some u) : HOk P w H h' := fun a o e =>
  (x a o e).stay (fun b u _ q => k b u q) (fun _ q => q) fun _ _ q => q
theorem HOk.laid (x : HOk P w H h) (k : ∀ b u, h.get? b = some u → h'.get? b = some u) (hp : h.objs.size ≤ a) (new : ObjOk P w (upd H a o) h' a o) : HOk P w (upd H a o) h' := fun b u e => by
  have hn := x.fresh hp
  by_cases hb : b = a
  · subst hb; rw [upd_same] at e; cases e; exact new
  · rw [upd_ne hb] at e
    exact (x b u e).stay (fun c v _ q => k c v q) (fun c q => by rw [upd_ne (ne_of_none q hn)]; exact q) fun c xs q => by rw [upd_ne (ne_of_none q hn)]; exact q
end
def Rd (H : Hp) (a : Addr) (u : HO) : Prop := H a = some u ∨ ∃ o, H a = some (.frz o u)
theorem Rd.of {H : Hp} {a : Addr} {u : HO} (h : H a = some u) : Rd H a u := .inl h
theorem Rd.ok {P : Program} {w : World} {H : Hp} {h : Heap} {a : Addr} {u : HO} (r : Rd H a u) (x : HOk P w H h) : ObjOk P w H h a u := by
  rcases r with r | ⟨o, r⟩
  · exact x a u r
  · obtain ⟨_, q⟩ := x a _ r
    exact q
def Mut : Option HO → Prop
  | some (.lst _) => True
  | some (.dK _) => True
  | some (.dT _) => True
  | some (.set _ _) => True
  | some (.ins _ _ _) => True
  | some (.ext _) => True
  | _ => False
section
variable {P : Program} {w : World} {H : Hp} {h h' : Heap} {x e : Addr} {o' : HO}
theorem HOk.write (ok : HOk P w H h) (mu : Mut (H x)) (he : e = x ∨ H e = some (.own x)) (k : ∀ b u, b ≠ e → h.get? b = some u → h'.get? b = some u) (heo : ∃ u, h'.get? e = some u)
    (new : ObjOk P w (upd H x o') h' x o') : HOk P w (upd H x o') h' := fun b u q => by
  have nown : ∀ c y, H c = some (.own y) → c ≠ x := fun c y r z => by subst z; rw [r] at mu; exact mu
  have ntup : ∀ c xs, H c = some (.tup xs) → c ≠ x := fun c xs r z => by subst z; rw [r] at mu; exact mu
  by_cases hb : b = x
  · subst hb; rw [upd_same] at q; cases q; exact new
  · rw [upd_ne hb] at q
    by_cases hbe : b = e
    · have q' : H b = some (.own x) := by
        rcases he with z | z
        · exact absurd (hbe.trans z) hb
        · rw [hbe]; exact z
      rw [q] at q'; cases q'
      obtain ⟨v, hv⟩ := heo
      exact ⟨v, by rw [hbe]; exact hv⟩
    · refine (ok b u q).stay (fun c v hc r => k c v ?_ r) (fun c r => by rw [upd_ne (nown c b r)]; exact r) fun c xs r => by rw [upd_ne (ntup c xs r)]; exact r
      rcases hc with rfl | hc
      · exact hbe
      · rintro rfl
        rcases he with z | z
        · exact nown c b hc z
        · rw [hc] at z; cases z; exact hb rfl
end
structure Un (fs ex : List Addr) (H H' : Hp) (h h' : Heap) : Prop where
  keep : ∀ b o, h.get? b = some o → H b = none → b ∉ fs → b ∉ ex → h'.get? b = some o
  slot : ∀ b o, h.get? b = some o → H b = none → b ∈ fs → b ∉ ex → ∃ sl, h'.get? b = some { o with slots := sl }
  free : ∀ b o, h.get? b = some o → H b = none → b ∉ ex → H' b = none
  there : ∀ b o, h.get? b = some o → b ∉ ex → ∃ o', h'.get? b = some o'
  tups : ∀ b xs, H b = some (.tup xs) → H' b = some (.tup xs)
  frzs : ∀ b o u, H b = some (.frz o u) → H' b = some (.frz o u)
  tbls : ∀ b ps, H b = some (.tbl ps) → ∃ more, H' b = some (.tbl (ps ++ more))
section
variable {fs fs' ex ex' : List Addr} {H H1 H2 : Hp} {h h1 h2 h' : Heap} {a x e : Addr} {o : HO}
theorem Un.any (u : Un fs ex H H1 h h1) {b : Addr} {ob : Obj} (q : h.get? b = some ob) (n : H b = none) (hx : b ∉ ex) : ∃ sl, h1.get? b = some { ob with slots := sl } := by
  by_cases hb : b ∈ fs
  · exact u.slot b ob q n hb hx
  · exact ⟨ob.slots, u.keep b ob q n hb hx⟩
theorem Un.trans (a : Un fs ex H H1 h h1) (b : Un fs ex H1 H2 h1 h2) : Un fs ex H H2 h h2 where
  keep := fun c ob q n hc hx => b.keep c ob (a.keep c ob q n hc hx) (a.free c ob q n hx) hc hx
  slot := fun c ob q n hc hx => by
    obtain ⟨sl, e1⟩ := a.slot c ob q n hc hx
    obtain ⟨sl', e2⟩ := b.slot c _ e1 (a.free c ob q n hx) hc hx
    exact ⟨sl', e2⟩
  free := fun c ob q n hx => by
    obtain ⟨o', e1⟩ := a.there c ob q hx
    exact b.free c o' e1 (a.free c ob q n hx) hx
  there := fun c ob q hx => by
    obtain ⟨o', e1⟩ := a.there c ob q hx
    exact b.there c o' e1 hx
  tups := fun c xs q => b.tups c xs (a.tups c xs q)
  frzs := fun c ob xs q => b.frzs c ob xs (a.frzs c ob xs q)
  tbls := fun c ps q => by
    obtain ⟨m1, e1⟩ := a.tbls c ps q
    obtain ⟨m2, e2⟩ := b.tbls c _ e1
    exact ⟨m1 ++ m2, by rw [e2, Array.append_assoc]⟩
theorem Un.kept (k : ∀ b u, h.get? b = some u → h'.get? b = some u) : Un fs ex H H h h' :=
  ⟨fun b ob q _ _ _ => k b ob q, fun b ob q _ _ _ => ⟨ob.slots, k b ob q⟩, fun _ _ _ n _ => n, fun b ob q _ => ⟨ob, k b ob q⟩, fun _ _ q => q, fun _ _ _ q => q, fun _ ps q => ⟨#[], by rw [q]; simp⟩⟩
theorem Un.refl : Un fs ex H H h h := Un.kept fun _ _ q => q
theorem Un.laid (k : ∀ b u, h.get? b = some u → h'.get? b = some u) (hp : h.objs.size ≤ a) (hn : H a = none) : Un fs ex H (upd H a o) h h' where
  keep := fun b u q _ _ _ => k b u q
  slot := fun b u q _ _ _ => ⟨u.slots, k b u q⟩
  free := fun b u q n _ => by rw [upd_ne (Nat.ne_of_lt (Nat.lt_of_lt_of_le (Heap.lt_size q) hp))]; exact n
  there := fun b u q _ => ⟨u, k b u q⟩
  tups := fun b xs q => by rw [upd_ne (ne_of_none q hn)]; exact q
  frzs := fun b u xs q => by rw [upd_ne (ne_of_none q hn)]; exact q
  tbls := fun b ps q => ⟨#[], by rw [upd_ne (ne_of_none q hn), q]; simp⟩
theorem Un.write (mu : Mut (H x)) (he : e = x ∨ H e = some (.own x)) (k : ∀ b u, b ≠ e → h.get? b = some u → h'.get? b = some u) (heo : ∃ u, h'.get? e = some u) : Un fs ex H (upd H x o) h h' := by
  have hx : ∀ b, H b = none → b ≠ x := fun b n z => by subst z; rw [n] at mu; exact mu
  have hb : ∀ b, H b = none → b ≠ e := fun b n z => by
    subst z
    rcases he with r | r
    · exact hx b n r
    · rw [n] at r; cases r
  have hm : ∀ b u, H b = some u → ¬ Mut (some u) → b ≠ x := fun b u q nm z => by subst z; rw [q] at mu; exact nm mu
  refine ⟨fun b u q n _ _ => k b u (hb b n) q, fun b u q n _ _ => ⟨u.slots, k b u (hb b n) q⟩, fun b u q n _ => by rw [upd_ne (hx b n)]; exact n, fun b u q _ => ?_,
    fun b xs q => by rw [upd_ne (hm b _ q fun z => z)]; exact q, fun b u xs q => by rw [upd_ne (hm b _ q fun z => z)]; exact q, fun b ps q => ⟨#[], by rw [upd_ne (hm b _ q fun z => z), q]; simp⟩⟩
  by_cases hbe : b = e
  · subst hbe; exact heo
  · exact ⟨u, k b u hbe q⟩
theorem Un.mono (u : Un fs ex H H1 h h1) (hs : ∀ b ∈ fs, b ∈ fs') (hx : ∀ b ∈ ex, b ∈ ex') : Un fs' ex' H H1 h h1 :=
  ⟨fun b ob q n hb he => u.keep b ob q n (fun z => hb (hs b z)) fun z => he (hx b z), fun _ _ q n _ he => u.any q n fun z => he (hx _ z), fun b ob q n he => u.free b ob q n fun z => he (hx b z), fun b ob q he => u.there b ob q fun z => he (hx b z), u.tups, u.frzs, u.tbls⟩
end
def trk (h : Heap) (H : Hp) : List Addr := (List.range h.objs.size).filter fun a => (H a).isSome
def hidT (h : Heap) (H : Hp) : Heap := PySem.W.hideAll h (trk h H)
theorem hidT_size (h : Heap) (H : Hp) : (hidT h H).objs.size = h.objs.size := PySem.W.hideAll_size _ _
theorem hidT_get {h : Heap} {H : Hp} {b : Addr} {o : Obj} (e : h.get? b = some o) (n : H b = none) : (hidT h H).get? b = some o :=
  PySem.W.hideAll_get _ e fun hm => by
    have q : (H b).isSome = true := (List.mem_filter.mp hm).2
    rw [n] at q; simp at q
theorem of_hidT {h : Heap} {H : Hp} {b : Addr} {o : Obj} (e : (hidT h H).get? b = some o) : h.get? b = some o ∧ H b = none := by
  have e' : h.get? b = some o := PySem.W.of_hideAll (trk h H) e
  refine ⟨e', ?_⟩
  cases q : H b with
  | none => rfl
  | some x =>
    have hm : b ∈ trk h H := List.mem_filter.mpr ⟨List.mem_range.mpr (Heap.lt_size e'), by simp [q]⟩
    have z : (hidT h H).get? b = none := PySem.W.hideAll_none (trk h H) hm
    rw [z] at e; cases e

def allNews (g h : Heap) (L : Addr) : List (Addr × Obj) := (List.range h.objs.size).filterMap fun a => if a = L ∨ (g.get? a).isSome = true then none else (h.get? a).map fun o => (a, o)
def rest (g h : Heap) (L d : Addr) : List (Addr × Obj) := (allNews g h L).filter fun p => decide (p.1 ≠ d)
end L2
namespace L2
open PySem PySem.Spec PyProof.Rows
structure Mod (K : PySem.W.Frag) (mg : Str → Option Value) (base : Heap) : Prop where
  kin : K.In base
  glob : base.Ns mainGlobals mg
  blt : ∃ mb, base.Ns builtinsNs mb ∧ ∀ x : Str, x ≠ "__name__" → mb x = bootBuiltins x
  nolimit : base.NoLimit

structure Cx where
  prog : Program
  w : World
  K : PySem.W.Frag
  mg : Str → Option Value
  base : Heap
  A : Around
  N : List Str
  s₀ : Shared
  H₀ : Hp
  env : Env
  outer : List Env
  stack : List Env
  ex : List Addr
  fn : Str → Bool
  calm : Bool
  pn : List (Addr × Obj)
  xe : Value → Shared → Prop
def frs (l : List Env) : List Addr := l.filterMap (·.frame)
abbrev Cx.fs (X : Cx) : List Addr := frs X.outer

def Vis (sc : Scope) (x : Str) : Prop := sc.names.lookup x = some .local ∨ sc.names.lookup x = some .cell ∨ sc.names.lookup x = some .free
def Loc (sc : Scope) (x : Str) : Prop := sc.names.lookup x = some .local ∨ sc.names.lookup x = some .cell
def Look (env : Env) (h : Heap) (m : Str → Option Value) (x : Str) (u : Value) : Prop :=
  (env.kindOf x = some .local ∧ m x = some u) ∨ ((env.kindOf x = some .cell ∨ env.kindOf x = some .free) ∧ ∃ c, env.cells.lookup x = some c ∧ h.IsCell c (some u))

structure Cx.Ok (X : Cx) : Prop where
  mod : Mod X.K X.mg X.base
  kind : X.env.scope.kind = .function
  glob : X.env.globals = mainGlobals
  blt : X.env.builtins = builtinsNs
  above : X.s₀.heap.objs.size ≤ X.env.locals
  inj : ∀ x y c, X.env.cells.lookup x = some c → X.env.cells.lookup y = some c → x = y
  has : ∀ x, (X.env.kindOf x = some .cell ∨ X.env.kindOf x = some .free) → ∃ c, X.env.cells.lookup x = some c
  cab : ∀ x c, X.fn x = true → X.env.cells.lookup x = some c → X.s₀.heap.objs.size ≤ c
  hd : X.calm = true → X.A.handled = none
  frames : X.A.frames = some X.stack
  stk : X.stack = X.outer ∨ (X.stack = X.env :: X.outer ∧ X.env.frame = some X.env.locals)
  exf : ∀ b ∈ X.ex, b ≠ X.env.locals ∧ ∀ x c, X.env.cells.lookup x = some c → c ≠ b
  bs : ∀ b o, X.base.get? b = some o → X.s₀.heap.get? b = some o ∧ X.H₀ b = none
  bsz : X.base.objs.size ≤ X.s₀.heap.objs.size
  noex : ∀ b o, X.base.get? b = some o → b ∉ X.ex
  exfs : ∀ b ∈ X.ex, b ∉ X.fs
  funs : X.s₀.heap.FunFrames X.base X.outer
  frf : ∀ b ∈ X.fs, X.H₀ b = none

structure Inv (X : Cx) (pins : List (Addr × Obj)) (σ : List (Option V)) (H : Hp) (s : Shared) : Prop where
  ok : X.Ok
  os : s.os = X.s₀.os
  bare : AllBare s.gens
  base : Un X.fs X.ex X.H₀ H X.s₀.heap s.heap
  loc : ∃ m, s.heap.Ns X.env.locals m ∧ ∀ (i : Nat) (x : Str) (v : V), X.N[i]? = some x → σ[i]? = some (some v) → Vis X.env.scope x → ∃ u, RelV v u ∧ Look X.env s.heap m x u
  cell : ∀ x c, X.env.cells.lookup x = some c → ∃ v, s.heap.IsCell c v
  free : H X.env.locals = none
  freeC : ∀ x c, X.env.cells.lookup x = some c → H c = none
  pin : ∀ p ∈ X.pn ++ pins, s.heap.get? p.1 = some p.2 ∧ H p.1 = none ∧ p.1 ≠ X.env.locals ∧ p.1 ∉ X.fs ∧ ∀ v, p.2.data ≠ .cell v
  hok : HOk X.prog X.w H s.heap
  len : σ.length = X.N.length

section
variable {X : Cx} {pins : List (Addr × Obj)} {σ : List (Option V)} {H H' : Hp} {s : Shared} {h' : Heap}
theorem Cx.Ok.nofr (ok : X.Ok) {b : Addr} {o : Obj} (e : X.base.get? b = some o) : b ∉ X.fs := fun hb => by
  have := (ok.funs.mem hb).1
  rw [e] at this; cases this
theorem Inv.bs (I : Inv X pins σ H s) : ∀ b o, X.base.get? b = some o → s.heap.get? b = some o ∧ H b = none := fun b o e =>
  ⟨I.base.keep b o (I.ok.bs b o e).1 (I.ok.bs b o e).2 (I.ok.nofr e) (I.ok.noex b o e), I.base.free b o (I.ok.bs b o e).1 (I.ok.bs b o e).2 (I.ok.noex b o e)⟩
theorem Inv.bk (I : Inv X pins σ H s) : ∀ b o, X.base.get? b = some o → s.heap.get? b = some o := fun b o e => (I.bs b o e).1
theorem Inv.mod (I : Inv X pins σ H s) : Mod X.K X.mg X.base := I.ok.mod
theorem Inv.kIn (I : Inv X pins σ H s) : X.K.In s.heap := I.ok.mod.kin.keeps I.bk
theorem Inv.nolimit (I : Inv X pins σ H s) : s.heap.NoLimit := I.ok.mod.nolimit.keeps I.bk
theorem Inv.fr (I : Inv X pins σ H s) : ∃ m, Fr X.base X.env.locals s.heap m :=
  let ⟨m, hn, _⟩ := I.loc
  ⟨m, hn, I.bk, Nat.le_trans I.ok.bsz I.ok.above⟩
theorem Inv.lt (I : Inv X pins σ H s) : X.env.locals < s.heap.objs.size := let ⟨_, hn, _⟩ := I.loc; hn.lt
theorem Inv.sz (I : Inv X pins σ H s) : X.s₀.heap.objs.size ≤ s.heap.objs.size := Nat.le_trans I.ok.above (Nat.le_of_lt I.lt)
theorem Inv.nofs (I : Inv X pins σ H s) {a : Addr} (h : s.heap.objs.size ≤ a) : a ∉ X.fs := fun hb => by
  obtain ⟨_, o, ho, _⟩ := I.ok.funs.mem hb
  exact absurd (Nat.lt_of_lt_of_le (Heap.lt_size ho) (Nat.le_trans I.sz h)) (Nat.lt_irrefl _)
theorem Inv.cne (I : Inv X pins σ H s) : ∀ x c, X.env.cells.lookup x = some c → c ≠ X.env.locals := fun x c e z => by
  obtain ⟨v, o, ho, hd⟩ := I.cell x c e
  obtain ⟨m, ⟨o', es, ep, ho', hd', _⟩, _⟩ := I.loc
  rw [z, ho'] at ho; cases ho; rw [hd'] at hd; cases hd
theorem Inv.funs (I : Inv X pins σ H s) : s.heap.FunFrames X.base X.outer := by
  have all : ∀ (l : List Env), (∀ b ∈ frs l, b ∈ X.fs) → X.s₀.heap.FunFrames X.base l → s.heap.FunFrames X.base l := by
    intro l
    induction l with
    | nil => intro _ _; trivial
    | cons env r ih =>
      intro hs hl
      obtain ⟨hk, ⟨L, o, hf, hn, ho, hd⟩, hr⟩ := hl
      have hL : L ∈ X.fs := hs L (by unfold frs; rw [List.filterMap_cons, hf]; exact List.mem_cons_self)
      obtain ⟨sl, e⟩ := I.base.slot L o ho (I.ok.frf L hL) hL fun z => I.ok.exfs L z hL
      exact ⟨hk, ⟨L, _, hf, hn, e, hd⟩, ih (fun b hb => hs b (by unfold frs; rw [List.filterMap_cons, hf]; exact List.mem_cons_of_mem _ hb)) hr⟩
  exact all X.outer (fun _ hb => hb) I.ok.funs

theorem Inv.stack (I : Inv X pins σ H s) : s.heap.FunFrames X.base X.stack := by
  rcases I.ok.stk with e | ⟨e, hf⟩
  · rw [e]; exact I.funs
  · rw [e]
    obtain ⟨m, hn, _⟩ := I.loc
    refine .cons (by rw [I.ok.kind]; decide) hf hn ?_ I.funs
    exact Heap.get?_none_of_le (Nat.le_trans I.ok.bsz I.ok.above)
theorem Inv.stkSub (I : Inv X pins σ H s) : ∀ b ∈ frs X.stack, b ∈ X.env.locals :: X.fs := fun b hb => by
  rcases I.ok.stk with e | ⟨e, hf⟩
  · rw [e] at hb; exact List.mem_cons_of_mem _ hb
  · rw [e] at hb
    unfold frs at hb
    rw [List.filterMap_cons, hf] at hb
    exact hb
theorem Inv.stkFree (I : Inv X pins σ H s) : ∀ b ∈ frs X.stack, H b = none := fun b hb => by
  rcases List.mem_cons.mp (I.stkSub b hb) with e | hb
  · rw [e]; exact I.free
  · obtain ⟨_, o, ho, _⟩ := I.ok.funs.mem hb
    exact I.base.free b o ho (I.ok.frf b hb) fun z => I.ok.exfs b z hb

theorem Inv.step {g' : Array GenState} {t' : Nat} {d' : Drawn} {ch : List Addr} (I : Inv X pins σ H s)
    (hch : ∀ b ∈ ch, (b ∈ X.ex ∨ X.s₀.heap.objs.size ≤ b) ∧ b ≠ X.env.locals ∧ (∀ x c, X.env.cells.lookup x = some c → c ≠ b) ∧ ∀ p ∈ X.pn ++ pins, p.1 ≠ b)
    (keep : ∀ b o, b ≠ X.env.locals → b ∉ X.fs → b ∉ ch → s.heap.get? b = some o → H b = none → h'.get? b = some o)
    (slot : ∀ b o, b ≠ X.env.locals → b ∈ X.fs → b ∉ ch → s.heap.get? b = some o → H b = none → ∃ sl, h'.get? b = some { o with slots := sl }) (free : ∀ b o, b ∉ ch → s.heap.get? b = some o → H b = none → H' b = none)
    (there : ∀ b o, b ∉ ch → s.heap.get? b = some o → ∃ o', h'.get? b = some o')
    (tups : ∀ b xs, H b = some (.tup xs) → H' b = some (.tup xs)) (frzs : ∀ b o u, H b = some (.frz o u) → H' b = some (.frz o u)) (tbls : ∀ b ps, H b = some (.tbl ps) → ∃ more, H' b = some (.tbl (ps ++ more)))
    (ns : ∀ m, s.heap.Ns X.env.locals m → h'.Ns X.env.locals m) (hok : HOk X.prog X.w H' h') (hg : AllBare g') :
    Inv X pins σ H' { s with heap := h', gens := g', drawn := d', toks := t' } := by
  have neL : ∀ b o, X.s₀.heap.get? b = some o → b ≠ X.env.locals := fun b o e => Nat.ne_of_lt (Nat.lt_of_lt_of_le (Heap.lt_size e) I.ok.above)
  have neC : ∀ b o, X.s₀.heap.get? b = some o → b ∉ X.ex → b ∉ ch := fun b o e hx hb => by
    rcases (hch b hb).1 with z | z
    · exact hx z
    · exact absurd (Nat.lt_of_lt_of_le (Heap.lt_size e) z) (Nat.lt_irrefl _)
  have cellK : ∀ x c, X.env.cells.lookup x = some c → ∀ v, s.heap.IsCell c v → h'.IsCell c v := fun x c e v ⟨o, ho, hd⟩ => by
    have nch : c ∉ ch := fun z => (hch c z).2.2.1 x c e rfl
    by_cases hc : c ∈ X.fs
    · obtain ⟨sl, q⟩ := slot c o (I.cne x c e) hc nch ho (I.freeC x c e)
      exact ⟨_, q, hd⟩
    · exact ⟨o, keep c o (I.cne x c e) hc nch ho (I.freeC x c e), hd⟩
  refine ⟨I.ok, I.os, hg, ⟨fun b o e n hb hx => ?_, fun b o e n hb hx => ?_, fun b o e n hx => ?_, fun b o e hx => ?_, fun b xs e => tups b xs (I.base.tups b xs e), fun b o xs e => frzs b o xs (I.base.frzs b o xs e), fun b ps e => ?_⟩, ?_, fun x c e => ?_, ?_, fun x c e => ?_, fun p hp => ?_, hok, I.len⟩
  · exact keep b o (neL b o e) hb (neC b o e hx) (I.base.keep b o e n hb hx) (I.base.free b o e n hx)
  · obtain ⟨sl, e1⟩ := I.base.slot b o e n hb hx
    obtain ⟨sl', e2⟩ := slot b _ (neL b o e) hb (neC b o e hx) e1 (I.base.free b o e n hx)
    exact ⟨sl', e2⟩
  · obtain ⟨o', e1⟩ := I.base.there b o e hx
    exact free b o' (neC b o e hx) e1 (I.base.free b o e n hx)
  · obtain ⟨o', e1⟩ := I.base.there b o e hx
    exact there b o' (neC b o e hx) e1
  · obtain ⟨m1, e1⟩ := I.base.tbls b ps e
    obtain ⟨m2, e2⟩ := tbls b _ e1
    exact ⟨m1 ++ m2, by rw [e2, Array.append_assoc]⟩
  · obtain ⟨m, hn, hl⟩ := I.loc
    refine ⟨m, ns m hn, fun i x v e1 e2 e3 => ?_⟩
    obtain ⟨u, r, l⟩ := hl i x v e1 e2 e3
    refine ⟨u, r, ?_⟩
    rcases l with l | ⟨k, c, e, z⟩
    · exact .inl l
    · exact .inr ⟨k, c, e, cellK x c e _ z⟩
  · obtain ⟨v, z⟩ := I.cell x c e
    exact ⟨v, cellK x c e v z⟩
  · obtain ⟨m, ⟨o, _, _, ho, _⟩, _⟩ := I.loc
    exact free _ o (fun z => (hch _ z).2.1 rfl) ho I.free
  · obtain ⟨v, o, ho, hd⟩ := I.cell x c e
    exact free c o (fun z => (hch c z).2.2.1 x c e rfl) ho (I.freeC x c e)
  · obtain ⟨e, n, ne, nf, d⟩ := I.pin p hp
    have nch : p.1 ∉ ch := fun z => (hch p.1 z).2.2.2 p hp rfl
    exact ⟨keep p.1 p.2 ne nf nch e n, free p.1 p.2 nch e n, ne, nf, d⟩
theorem Inv.un {t' : Nat} (I : Inv X pins σ H s) (u : Un X.fs [] H H' s.heap h') (hok : HOk X.prog X.w H' h') : Inv X pins σ H' { s with heap := h', toks := t' } := by
  obtain ⟨m, ⟨o, es, ep, ho, r⟩, _⟩ := id I.loc
  obtain ⟨sl, hL⟩ := u.any ho I.free (by simp)
  exact I.step (g' := s.gens) (d' := s.drawn) (ch := []) (fun _ z => nomatch z) (fun b o _ hb _ e n => u.keep b o e n hb (by simp)) (fun b o _ hb _ e n => u.slot b o e n hb (by simp)) (fun b o _ e n => u.free b o e n (by simp)) (fun b o _ e => u.there b o e (by simp)) u.tups u.frzs u.tbls (fun m' hm => by
    obtain ⟨o', es', ep', ho', r'⟩ := hm
    rw [ho] at ho'; cases ho'
    exact ⟨_, es', ep', hL, r'⟩) hok I.bare
theorem Inv.call {g' : Array GenState} {t' : Nat} {d' : Drawn} {ch : List Addr} (I : Inv X pins σ H s) (u : Un (frs X.stack) ch H H' s.heap h') (hok : HOk X.prog X.w H' h') (hg : AllBare g')
    (hch : ∀ b ∈ ch, (b ∈ X.ex ∨ X.s₀.heap.objs.size ≤ b) ∧ b ≠ X.env.locals ∧ (∀ x c, X.env.cells.lookup x = some c → c ≠ b) ∧ ∀ p ∈ X.pn ++ pins, p.1 ≠ b) :
    Inv X pins σ H' { s with heap := h', gens := g', drawn := d', toks := t' } := by
  obtain ⟨m, ⟨o, es, ep, ho, r⟩, _⟩ := id I.loc
  obtain ⟨sl, hL⟩ := u.any ho I.free fun z => (hch _ z).2.1 rfl
  exact I.step (ch := ch) hch (fun b o hL hb hc e n => u.keep b o e n (fun z => (List.mem_cons.mp (I.stkSub b z)).elim hL hb) hc) (fun b o _ _ hc e n => u.any e n hc) (fun b o hc e n => u.free b o e n hc) (fun b o hc e => u.there b o e hc) u.tups u.frzs u.tbls (fun m' hm => by
    obtain ⟨o', es', ep', ho', r'⟩ := hm
    rw [ho] at ho'; cases ho'
    exact ⟨_, es', ep', hL, r'⟩) hok hg
theorem Inv.turned {t' : Nat} {it : Addr} (I : Inv X pins σ H s) (k : ∀ b o, b ≠ it → s.heap.get? b = some o → h'.get? b = some o) (hn : H it = none) (hL : it ≠ X.env.locals)
    (h1 : it ∈ X.ex ∨ X.s₀.heap.objs.size ≤ it) (h2 : ∀ x c, X.env.cells.lookup x = some c → c ≠ it) (h3 : ∀ p ∈ X.pn ++ pins, p.1 ≠ it) : Inv X pins σ H { s with heap := h', toks := t' } := by
  have nit : ∀ b u, H b = some u → b ≠ it := fun b u e z => by rw [z, hn] at e; cases e
  refine I.step (g' := s.gens) (d' := s.drawn) (ch := [it]) (fun b hb => ?_) (fun b o _ _ hc e _ => k b o (fun z => hc (by simp [z])) e) (fun b o _ _ hc e _ => ⟨o.slots, k b o (fun z => hc (by simp [z])) e⟩) (fun _ _ _ _ n => n)
    (fun b o hc e => ⟨o, k b o (fun z => hc (by simp [z])) e⟩) (fun _ _ e => e) (fun _ _ _ e => e) (fun b ps e => ⟨#[], by rw [e]; simp⟩) (fun m hm => ?_) (fun b u e => ?_) I.bare
  · have e : b = it := by simpa using hb
    subst e
    exact ⟨h1, hL, h2, h3⟩
  · obtain ⟨o, es, ep, ho, r⟩ := hm
    exact ⟨o, es, ep, k _ o (Ne.symm hL) ho, r⟩
  · refine (I.hok b u e).stay (fun c v hc q => k c v ?_ q) (fun _ q => q) fun _ _ q => q
    rcases hc with z | z
    · rw [z]; exact nit b u e
    · exact nit c _ z
theorem Inv.tok (I : Inv X pins σ H s) (t : Nat) : Inv X pins σ H { s with toks := t } := I.un (h' := s.heap) (t' := t) Un.refl I.hok
theorem Inv.kept {t' : Nat} (I : Inv X pins σ H s) (k : ∀ b u, s.heap.get? b = some u → h'.get? b = some u) : Inv X pins σ H { s with heap := h', toks := t' } := I.un (Un.kept k) (I.hok.kept k)
theorem Inv.laid {a : Addr} {o : HO} {t' : Nat} (I : Inv X pins σ H s) (k : ∀ b u, s.heap.get? b = some u → h'.get? b = some u) (hp : s.heap.objs.size ≤ a) (new : ObjOk X.prog X.w (upd H a o) h' a o) :
    Inv X pins σ (upd H a o) { s with heap := h', toks := t' } := I.un (Un.laid k hp (I.hok.fresh hp)) (I.hok.laid k hp new)
theorem Inv.write {x e : Addr} {o : HO} {t' : Nat} (I : Inv X pins σ H s) (mu : Mut (H x)) (he : e = x ∨ H e = some (.own x)) (k : ∀ b u, b ≠ e → s.heap.get? b = some u → h'.get? b = some u) (heo : ∃ u, h'.get? e = some u)
    (new : ObjOk X.prog X.w (upd H x o) h' x o) : Inv X pins σ (upd H x o) { s with heap := h', toks := t' } := I.un (Un.write mu he k heo) (I.hok.write mu he k heo new)
theorem Inv.weak {σ' : List (Option V)} (I : Inv X pins σ H s) (hl : σ'.length = σ.length) (w : ∀ (i : Nat) v, σ'[i]? = some (some v) → σ[i]? = some (some v)) : Inv X pins σ' H s :=
  ⟨I.ok, I.os, I.bare, I.base, let ⟨m, hn, hl'⟩ := I.loc; ⟨m, hn, fun i x v e1 e2 e3 => hl' i x v e1 (w i v e2) e3⟩, I.cell, I.free, I.freeC, I.pin, I.hok, hl.trans I.len⟩
theorem Inv.pins_of {pins' : List (Addr × Obj)} (I : Inv X pins σ H s) (h : ∀ p ∈ pins', s.heap.get? p.1 = some p.2 ∧ H p.1 = none ∧ p.1 ≠ X.env.locals ∧ p.1 ∉ X.fs ∧ ∀ v, p.2.data ≠ .cell v) : Inv X pins' σ H s :=
  ⟨I.ok, I.os, I.bare, I.base, I.loc, I.cell, I.free, I.freeC, fun p hp => (List.mem_append.mp hp).elim (fun z => I.pin p (List.mem_append_left _ z)) (h p), I.hok, I.len⟩

theorem nodup_ix {N : List Str} (hN : N.Nodup) {i j : Nat} {x : Str} (a : N[i]? = some x) (b : N[j]? = some x) : i = j := by
  obtain ⟨h1, e1⟩ := List.getElem?_eq_some_iff.mp a
  obtain ⟨h2, e2⟩ := List.getElem?_eq_some_iff.mp b
  exact (List.getElem_inj hN).mp (e1.trans e2.symm)

theorem store_ok2 {M : Model} {A : Around} {E : Value → Shared → Prop} {i : Nat} {x : Str} {v : V} {u : Value} {Q : Unit → Shared → Prop} (I : Inv X pins σ H s) (hN : X.N.Nodup) (hi : X.N[i]? = some x) (hx : Loc X.env.scope x) (r : RelV v u)
    (h : ∀ s', Inv X pins (σ.set i (some v)) H s' → (∃ a, Heap.SameBut a s.heap s'.heap ∧ (a = X.env.locals ∨ X.env.cells.lookup x = some a)) → Q () s') (hf : X.fn x = true ∨ X.env.scope.names.lookup x = some .local := by first | exact .inl rfl | exact .inr rfl | assumption) : wpAny M A (storeName X.env x u) Q E s := by
  obtain ⟨m, hn, hl⟩ := id I.loc
  have hcls : (X.env.scope.kind == .class || (X.env.scope.kind == .module && X.env.locals != X.env.globals)) = false := by rw [I.ok.kind]; rfl
  have hiσ : i < σ.length := by rw [I.len]; exact (List.getElem?_eq_some_iff.mp hi).1
  have cne := I.cne
  have tracked : ∀ {a : Addr} {h' : Heap}, (∃ o, s.heap.get? a = some o ∧ H a = none) → Heap.SameBut a s.heap h' → HOk X.prog X.w H h' := fun {a h'} ha hs b ob e => by
    obtain ⟨_, _, hfree⟩ := ha
    refine (I.hok b ob e).stay (fun c w' hc q => (hs.2 c ?_).trans q) (fun _ q => q) fun _ _ q => q
    rintro rfl
    rcases hc with rfl | hc
    · rw [hfree] at e; cases e
    · rw [hfree] at hc; cases hc
  rcases hx with hk | hk
  · refine wpAny_storeName_local hk hn (fun h' hn' hs => ?_) hcls
    obtain ⟨oL, _, _, hoL, _⟩ := id hn
    refine h _ ⟨I.ok, I.os, I.bare, ⟨fun b o e n hb hx => ?_, fun b o e n hb hx => ?_, I.base.free, fun b o e hx => ?_, I.base.tups, I.base.frzs, I.base.tbls⟩, ⟨_, hn', fun j y v' e1 e2 e3 => ?_⟩, fun y c e => ?_, I.free, I.freeC, fun p hp => ?_, tracked ⟨oL, hoL, I.free⟩ hs, by simpa using I.len⟩ ⟨_, hs, .inl rfl⟩
    · exact (hs.2 b (Nat.ne_of_lt (Nat.lt_of_lt_of_le (Heap.lt_size e) I.ok.above))).trans (I.base.keep b o e n hb hx)
    · obtain ⟨sl, e1⟩ := I.base.slot b o e n hb hx
      exact ⟨sl, (hs.2 b (Nat.ne_of_lt (Nat.lt_of_lt_of_le (Heap.lt_size e) I.ok.above))).trans e1⟩
    · obtain ⟨o', e1⟩ := I.base.there b o e hx
      exact ⟨o', (hs.2 b (Nat.ne_of_lt (Nat.lt_of_lt_of_le (Heap.lt_size e) I.ok.above))).trans e1⟩
    · by_cases hj : j = i
      · subst hj
        rw [hi] at e1; cases e1
        rw [List.getElem?_set_self hiσ] at e2
        cases e2
        exact ⟨u, r, .inl ⟨hk, by simp⟩⟩
      · rw [List.getElem?_set_ne (Ne.symm hj)] at e2
        obtain ⟨u', r', q⟩ := hl j y v' e1 e2 e3
        refine ⟨u', r', ?_⟩
        rcases q with ⟨k, e⟩ | ⟨k, c, e, z⟩
        · refine .inl ⟨k, ?_⟩
          have : y ≠ x := fun e => hj (nodup_ix hN e1 (e ▸ hi))
          simp [this, e]
        · exact .inr ⟨k, c, e, z.sameBut hs (cne y c e)⟩
    · obtain ⟨w', z⟩ := I.cell y c e
      exact ⟨w', z.sameBut hs (cne y c e)⟩
    · obtain ⟨e, n, ne, nf, d⟩ := I.pin p hp
      exact ⟨(hs.2 p.1 ne).trans e, n, ne, nf, d⟩
  · have hfn : X.fn x = true := by
      rcases hf with z | z
      · exact z
      · rw [z] at hk; cases hk
    obtain ⟨c, hc⟩ := I.ok.has x (.inl hk)
    obtain ⟨w', z⟩ := I.cell x c hc
    refine wpAny_storeName_cell I.ok.kind hk hc z (fun h' hc' hs => ?_)
    obtain ⟨oc, hoc, hocd⟩ := id z
    refine h { s with heap := h' } ⟨I.ok, I.os, I.bare, ⟨fun b o e n hb hx => ?_, fun b o e n hb hx => ?_, I.base.free, fun b o e hx => ?_, I.base.tups, I.base.frzs, I.base.tbls⟩, ⟨m, hn.sameBut hs (Ne.symm (cne x c hc)), fun j y v' e1 e2 e3 => ?_⟩, fun y c' e => ?_, I.free, I.freeC, fun p hp => ?_, tracked ⟨oc, hoc, I.freeC x c hc⟩ hs, by simpa using I.len⟩ ⟨c, hs, .inr hc⟩
    · exact (hs.2 b (Nat.ne_of_lt (Nat.lt_of_lt_of_le (Heap.lt_size e) (I.ok.cab x c hfn hc)))).trans (I.base.keep b o e n hb hx)
    · obtain ⟨sl, e1⟩ := I.base.slot b o e n hb hx
      exact ⟨sl, (hs.2 b (Nat.ne_of_lt (Nat.lt_of_lt_of_le (Heap.lt_size e) (I.ok.cab x c hfn hc)))).trans e1⟩
    · obtain ⟨o', e1⟩ := I.base.there b o e hx
      exact ⟨o', (hs.2 b (Nat.ne_of_lt (Nat.lt_of_lt_of_le (Heap.lt_size e) (I.ok.cab x c hfn hc)))).trans e1⟩
    · by_cases hj : j = i
      · subst hj
        rw [hi] at e1; cases e1
        rw [List.getElem?_set_self hiσ] at e2
        cases e2
        exact ⟨u, r, .inr ⟨.inl hk, c, hc, hc'⟩⟩
      · rw [List.getElem?_set_ne (Ne.symm hj)] at e2
        obtain ⟨u', r', q⟩ := hl j y v' e1 e2 e3
        refine ⟨u', r', ?_⟩
        rcases q with q | ⟨k, c', e, z'⟩
        · exact .inl q
        · refine .inr ⟨k, c', e, z'.sameBut hs ?_⟩
          rintro rfl
          exact hj (nodup_ix hN e1 (I.ok.inj _ _ _ e hc ▸ hi))
    · by_cases hcc : c' = c
      · subst hcc; exact ⟨_, hc'⟩
      · obtain ⟨w2, z2⟩ := I.cell y c' e
        exact ⟨w2, z2.sameBut hs hcc⟩
    · obtain ⟨e, n, ne, nf, d⟩ := I.pin p hp
      refine ⟨(hs.2 p.1 ?_).trans e, n, ne, nf, d⟩
      intro q
      rw [q, hoc] at e
      have q' : oc = p.2 := Option.some.inj e
      exact d w' (by rw [← q']; exact hocd)
theorem store_ok {M : Model} {A : Around} {E : Value → Shared → Prop} {i : Nat} {x : Str} {v : V} {u : Value} {Q : Unit → Shared → Prop} (I : Inv X pins σ H s) (hN : X.N.Nodup) (hi : X.N[i]? = some x) (hx : Loc X.env.scope x) (r : RelV v u)
    (h : ∀ s', Inv X pins (σ.set i (some v)) H s' → Q () s') (hf : X.fn x = true ∨ X.env.scope.names.lookup x = some .local := by first | exact .inl rfl | exact .inr rfl | assumption) : wpAny M A (storeName X.env x u) Q E s :=
  store_ok2 I hN hi hx r (fun s' I' _ => h s' I') hf
theorem Inv.call' {s' : Shared} {ch : List Addr} (I : Inv X pins σ H s) (ho : s'.os = s.os) (u : Un (frs X.stack) ch H H' s.heap s'.heap) (hok : HOk X.prog X.w H' s'.heap) (hg : AllBare s'.gens)
    (hch : ∀ b ∈ ch, (b ∈ X.ex ∨ X.s₀.heap.objs.size ≤ b) ∧ b ≠ X.env.locals ∧ (∀ x c, X.env.cells.lookup x = some c → c ≠ b) ∧ ∀ p ∈ X.pn ++ pins, p.1 ≠ b) : Inv X pins σ H' s' := by
  obtain ⟨h', g', d', t', o'⟩ := s'
  have e : o' = s.os := ho
  subst e
  exact I.call (g' := g') (t' := t') (d' := d') u hok hg hch
end
abbrev XK := Value → Option Addr → Hp → Prop
abbrev St := List (Option V)
abbrev VK := V → Hp → Prop
abbrev TE := St → Hp → VK → Prop
abbrev TT := St → Hp → (Bool → Hp → Prop) → Prop
abbrev TA := St → Hp → (List V → Hp → Prop) → Prop
structure Ends where
  nx : St → Hp → Prop
  rt : VK
  bk : St → Hp → Prop := fun _ _ => False
  ct : St → Hp → Prop := fun _ _ => False
abbrev TS := Ends → St → Hp → Prop

def EP (X : Cx) (pins : List (Addr × Obj)) (σ : St) (Q : VK) (u : Value) (s' : Shared) : Prop := ∃ v H', Inv X pins σ H' s' ∧ RelV v u ∧ Q v H'
def TP (X : Cx) (pins : List (Addr × Obj)) (σ : St) (Q : Bool → Hp → Prop) (b : Bool) (s' : Shared) : Prop := ∃ H', Inv X pins σ H' s' ∧ Q b H'
def AP (X : Cx) (pins : List (Addr × Obj)) (σ : St) (Q : List V → Hp → Prop) (us : List Value) (s' : Shared) : Prop := ∃ vs H', Inv X pins σ H' s' ∧ Vals vs us ∧ Q vs H'
def SP (X : Cx) (pins : List (Addr × Obj)) (D : Ends) (f : Flow) (s' : Shared) : Prop :=
  match f with
  | .next => ∃ σ' H', Inv X pins σ' H' s' ∧ D.nx σ' H'
  | .brk => ∃ σ' H', Inv X pins σ' H' s' ∧ D.bk σ' H'
  | .cont => ∃ σ' H', Inv X pins σ' H' s' ∧ D.ct σ' H'
  | .ret u => ∃ v σ' H', Inv X pins σ' H' s' ∧ RelV v u ∧ D.rt v H'

def PE (X : Cx) (e : Expr) (t : TE) : Prop :=
  ∀ (pins : List (Addr × Obj)) (s : Shared) (σ : St) (H : Hp) (Q : VK), Inv X pins σ H s → t σ H Q → wpAny (model X.prog X.w) X.A (eval e X.env) (EP X pins σ Q) X.xe s
def PT (X : Cx) (e : Expr) (t : TT) : Prop :=
  ∀ (pins : List (Addr × Obj)) (s : Shared) (σ : St) (H : Hp) (Q : Bool → Hp → Prop), Inv X pins σ H s → t σ H Q → wpAny (model X.prog X.w) X.A (isTrue e X.env (eval e X.env)) (TP X pins σ Q) X.xe s
def PW (X : Cx) (e : Expr) (t : TT) : Prop :=
  ∀ (whole : Sem Value) (pins : List (Addr × Obj)) (s : Shared) (σ : St) (H : Hp) (Q : Bool → Hp → Prop), Inv X pins σ H s → t σ H Q → wpAny (model X.prog X.w) X.A (isTrue e X.env whole) (TP X pins σ Q) X.xe s
theorem PW.pt {X : Cx} {e : Expr} {t : TT} (h : PW X e t) : PT X e t := h _
def PA (X : Cx) (es : List Expr) (t : TA) : Prop :=
  ∀ (pos : Pos) (pins : List (Addr × Obj)) (s : Shared) (σ : St) (H : Hp) (Q : List V → Hp → Prop), Inv X pins σ H s → t σ H Q → wpAny (model X.prog X.w) X.A (spliced (backTo pos (starEach es X.env))) (AP X pins σ Q) X.xe s
def PS (X : Cx) (st : Stmt) (t : TS) : Prop :=
  ∀ (pins : List (Addr × Obj)) (s : Shared) (σ : St) (H : Hp) (D : Ends), Inv X pins σ H s → t D σ H → wpAny (model X.prog X.w) X.A (exec st X.env) (SP X pins D) X.xe s
def PSs (X : Cx) (st : List Stmt) (t : TS) : Prop :=
  ∀ (pins : List (Addr × Obj)) (s : Shared) (σ : St) (H : Hp) (D : Ends), Inv X pins σ H s → t D σ H → wpAny (model X.prog X.w) X.A (execs st X.env) (SP X pins D) X.xe s
theorem thn {α : Type} {t : Sem α} {Q Q' : α → Shared → Prop} {M : Model} {A : Around} {E : Value → Shared → Prop} {s : Shared} (h : wpAny M A t Q E s) (hQ : ∀ a s, Q a s → Q' a s) : wpAny M A t Q' E s := wpAny_mono h hQ fun _ _ x => x
end L2
namespace L2
open PySem PySem.Spec PyProof.Rows
section
variable {X : Cx}
def tVar (i : Nat) : TE := fun σ H Q => ∃ v, σ[i]? = some (some v) ∧ Q v H
def tC (v : V) : TE := fun _ H Q => Q v H
theorem pe_var {i : Nat} {x : Str} {pos : Pos} (hN : X.N[i]? = some x) (hv : Vis X.env.scope x) (hd : (x == ("__debug__" : Str)) = false := by decide) (hcd : (x == ("__classdict__" : Str)) = false := by decide) : PE X (.Name x pos) (tVar i) := by
  intro pins s σ H Q I h
  obtain ⟨v, e, h⟩ := h
  obtain ⟨m, hn, hl⟩ := I.loc
  obtain ⟨u, r, l⟩ := hl i x v hN e hv
  have fin : EP X pins σ Q u s := ⟨v, H, I, r, h⟩
  rcases l with ⟨hk, hm⟩ | ⟨hk, c, hc, hcell⟩
  · exact wpAny_Name (wpAny_loadName_local I.ok.kind hk hn hm fin) hd
  · rcases hk with hk | hk
    · exact wpAny_Name (wpAny_loadName_cell I.ok.kind hk hc hcell fin) hd
    · exact wpAny_Name (wpAny_loadName_free I.ok.kind hk hc hcell fin hcd) hd
theorem pe_int {i j pos} : PE X (.Constant (.int i) j pos) (tC (.int i)) := fun _ _ _ H _ I h => wpAny_Constant_int ⟨.int i, H, I.tok _, ⟨_, rfl⟩, h⟩
theorem pe_bl {b j pos} : PE X (.Constant (.bool b) j pos) (tC (.bl b)) := fun _ _ _ H _ I h => Constant_bool ⟨.bl b, H, I, rfl, h⟩
theorem pe_non {j pos} : PE X (.Constant .none j pos) (tC .non) := fun _ _ _ H _ I h => Constant_none ⟨.non, H, I, rfl, h⟩
theorem pe_str {x j pos} : PE X (.Constant (.str x) j pos) (tC (.str x)) := fun _ _ _ H _ I h => Calls.Constant_str ⟨.str x, H, I.tok _, ⟨_, rfl⟩, h⟩

def Gl (X : Cx) (x : Str) : Prop := X.env.kindOf x = some .globalImplicit
theorem ld_glob {E : Value → Shared → Prop} {pins : List (Addr × Obj)} {s : Shared} {σ : St} {H : Hp} {x : Str} {u : Value} {pos : Pos} {Q : Value → Shared → Prop} (I : Inv X pins σ H s) (hg : Gl X x) (hm : X.mg x = some u) (h : Q u s)
    (hd : (x == ("__debug__" : Str)) = false := by decide) : wpAny (model X.prog X.w) X.A (eval (.Name x pos) X.env) Q E s :=
  Calls.Name_function_global I.ok.kind hg (Calls.loadGlobal_global (by rw [I.ok.glob]; exact I.mod.glob.keeps I.bk) hm h) hd
theorem ld_blt {E : Value → Shared → Prop} {pins : List (Addr × Obj)} {s : Shared} {σ : St} {H : Hp} {x : Str} {u : Value} {pos : Pos} {Q : Value → Shared → Prop} (I : Inv X pins σ H s) (hg : Gl X x) (hm : X.mg x = none) (hv : bootBuiltins x = some u) (h : Q u s)
    (hn : x ≠ "__name__" := by decide) (hd : (x == ("__debug__" : Str)) = false := by decide) : wpAny (model X.prog X.w) X.A (eval (.Name x pos) X.env) Q E s := by
  obtain ⟨mb, h1, h2⟩ := I.mod.blt
  exact Calls.Name_function_global I.ok.kind hg (Calls.loadGlobal_builtin (by rw [I.ok.glob]; exact I.mod.glob.keeps I.bk) hm (by rw [I.ok.blt]; exact h1.keeps I.bk) ((h2 x hn).trans hv) h) hd
theorem pe_glob {x : Str} {v : V} {u : Value} {pos : Pos} (hg : Gl X x) (hm : X.mg x = some u) (r : RelV v u) (hd : (x == ("__debug__" : Str)) = false := by decide) : PE X (.Name x pos) (tC v) :=
  fun _ _ _ H _ I h => ld_glob I hg hm ⟨v, H, I, r, h⟩ hd
theorem pe_bltn {x : Str} {v : V} {u : Value} {pos : Pos} (hg : Gl X x) (hm : X.mg x = none) (hv : bootBuiltins x = some u) (r : RelV v u) (hn : x ≠ "__name__" := by decide) (hd : (x == ("__debug__" : Str)) = false := by decide) : PE X (.Name x pos) (tC v) :=
  fun _ _ _ H _ I h => ld_blt I hg hm hv ⟨v, H, I, r, h⟩ hn hd

variable {a b : Expr} {ta tb : TE} {pos : Pos}
def PC (X : Cx) (op : CmpOp) (a b : Expr) (t : TE) : Prop :=
  ∀ (pins : List (Addr × Obj)) (s : Shared) (σ : St) (H : Hp) (Q : VK), Inv X pins σ H s → t σ H Q →
    wpAny (model X.prog X.w) X.A (eval a X.env) (fun v s₁ => wpAny (model X.prog X.w) X.A (eval b X.env) (fun u s₂ => wpAny (model X.prog X.w) X.A (compareOp op v u) (EP X pins σ Q) X.xe s₂) X.xe s₁) X.xe s
theorem nobehind (b : Expr) {op : CmpOp} (h : op ≠ .In) (h2 : op ≠ .NotIn) : behindInMarks op b = false := by
  have e1 : (op == CmpOp.In) = false := by cases op <;> first | rfl | exact absurd rfl h
  have e2 : (op == CmpOp.NotIn) = false := by cases op <;> first | rfl | exact absurd rfl h2
  cases b <;> simp [behindInMarks, e1, e2]
def tIsN (ta : TE) : TE := fun σ H Q => ta σ H fun x H1 => Q (.bl (decide (x = .non))) H1
theorem RelV.none_iff {x : V} {v : Value} (r : RelV x v) : (v == Value.none) = decide (x = .non) := by
  cases x with
  | non => cases r; rfl
  | bl _ => cases r; rfl
  | int _ => obtain ⟨t, rfl⟩ := r; rfl
  | str _ => obtain ⟨t, rfl⟩ := r; rfl
  | byt _ => obtain ⟨t, rfl⟩ := r; rfl
  | flt _ => obtain ⟨t, rfl⟩ := r; rfl
  | ref _ => cases r; rfl
  | ty _ => cases r; rfl
theorem pc_isN {j pos'} (ha : PE X a ta) : PC X .Is a (.Constant .none j pos') (tIsN ta) := by
  intro pins s σ H Q I h
  refine thn (ha pins s σ H _ I h) fun v s1 ⟨x, H1, I1, r1, q1⟩ => ?_
  exact Constant_none (is_none_gen ⟨.bl _, H1, I1, by rw [r1.none_iff]; rfl, q1⟩)
def tB (t : TE) : TT := fun σ H Q => t σ H fun x H1 => ∃ c, x = .bl c ∧ Q c H1
theorem pt_cmp {op : CmpOp} {t : TE} (h : PC X op a b t) (h1 : behindInMarks op b = false := by first | exact nobehind _ (by decide) (by decide) | rfl) : PT X (.Compare a [op] [b] pos) (tB t) := by
  intro pins s σ H Q I hw
  refine wpAny_isTrue_Compare1 (thn (h pins s σ H _ I hw) fun v s1 h1 => thn h1 fun u s2 h2 => thn h2 fun c s3 ⟨x, H1, I1, r1, q1⟩ => ?_) h1
  obtain ⟨d, rfl, q⟩ := q1
  cases r1
  exact wpAny_truthy_bool ⟨H1, I1, q⟩
theorem pt_val {e : Expr} {t : TE} (h : PE X e t) (he : ∀ whole, isTrue e X.env whole = (do let v ← whole; standAt e.pos; holding [v] (truthy v)) := by intro _; rfl) : PT X e (tB t) := by
  intro pins s σ H Q I hw
  refine isTrue_plain (thn (h pins s σ H _ I hw) fun v s1 ⟨x, H1, I1, r1, q1⟩ => ?_) (he _)
  obtain ⟨d, rfl, q⟩ := q1
  cases r1
  exact wpAny_truthy_bool ⟨H1, I1, q⟩

variable {tA tB' : TT} {rest : List Expr}
def tAnd (t u : TT) : TT := fun σ H Q => t σ H fun c H1 => if c = true then u σ H1 Q else Q false H1
def tOr (t u : TT) : TT := fun σ H Q => t σ H fun c H1 => if c = true then Q true H1 else u σ H1 Q
def tNot (t : TT) : TT := fun σ H Q => t σ H fun c H1 => Q (!c) H1
theorem pw_and1 (ha : PT X a tA) : PW X (.BoolOp .And [a] pos) tA := by
  intro wh pins s σ H Q I h
  refine isTrue_and (thn (ha pins s σ H Q I h) fun c s1 e => ?_)
  cases c with
  | true => exact isTrue_and_nil e
  | false => exact e
theorem pw_or1 (ha : PT X a tA) : PW X (.BoolOp .Or [a] pos) tA := by
  intro wh pins s σ H Q I h
  refine isTrue_or (thn (ha pins s σ H Q I h) fun c s1 e => ?_)
  cases c with
  | false => exact isTrue_or_nil e
  | true => exact e
theorem pw_and (ha : PT X a tA) (hb : PW X (.BoolOp .And (b :: rest) pos) tB') : PW X (.BoolOp .And (a :: b :: rest) pos) (tAnd tA tB') := by
  intro wh pins s σ H Q I h
  refine isTrue_and (thn (ha pins s σ H _ I h) fun c s1 ⟨H1, I1, q1⟩ => ?_)
  cases c with
  | true => exact hb wh pins s1 σ H1 Q I1 q1
  | false => exact ⟨H1, I1, q1⟩
theorem pw_or (ha : PT X a tA) (hb : PW X (.BoolOp .Or (b :: rest) pos) tB') : PW X (.BoolOp .Or (a :: b :: rest) pos) (tOr tA tB') := by
  intro wh pins s σ H Q I h
  refine isTrue_or (thn (ha pins s σ H _ I h) fun c s1 ⟨H1, I1, q1⟩ => ?_)
  cases c with
  | true => exact ⟨H1, I1, q1⟩
  | false => exact hb wh pins s1 σ H1 Q I1 q1
theorem pt_not (ha : PT X a tA) : PT X (.UnaryOp .Not a pos) (tNot tA) := by
  intro pins s σ H Q I h
  exact isTrue_not (ha pins s σ H (fun c H1 => Q (!c) H1) I h)
def tAndV (ta tb : TE) : TE := fun σ H Q => ta σ H fun x H1 => ∃ c, x = .bl c ∧ if c = true then tb σ H1 Q else Q (.bl false) H1
theorem pe_one {op} {t : TE} (h : PE X a t) : PE X (.BoolOp op [a] pos) t := fun pins s σ H Q I hw => BoolOp_one (h pins s σ H Q I hw)
theorem pe_and (ha : PE X a ta) (hb : PE X (.BoolOp .And (b :: rest) pos) tb) : PE X (.BoolOp .And (a :: b :: rest) pos) (tAndV ta tb) := by
  intro pins s σ H Q I h
  refine BoolOp_and (thn (ha pins s σ H _ I h) fun v s1 ⟨x, H1, I1, r1, q1⟩ => ?_)
  obtain ⟨c, rfl, q1⟩ := q1
  cases r1
  refine wpAny_truthy_bool ?_
  cases c with
  | true => exact hb pins s1 σ H1 Q I1 q1
  | false => exact ⟨.bl false, H1, I1, rfl, q1⟩
end
end L2
namespace L2
open PySem PySem.Spec PyProof.Rows
def SqL (K : PySem.W.Frag) (H : Hp) (a : Addr) (xs : List V) : Prop :=
  Rd H a (.lst xs) ∨
    ∃ (o : Obj) (its : Array Value) (n : Nat), K.lookup a = some o ∧ o.cls = .type "list" ∧ o.dict = none ∧ o.data = .seq its n ∧ its.size ≤ sizeLine ∧ Vals xs its.toList
def SqT (K : PySem.W.Frag) (H : Hp) (a : Addr) (xs : List V) : Prop :=
  Rd H a (.tup xs) ∨
    ∃ (o : Obj) (its : Array Value) (n : Nat), K.lookup a = some o ∧ o.cls = .type "tuple" ∧ o.data = .seq its n ∧ its.size ≤ sizeLine ∧ Vals xs its.toList
def absV : Value → Option V
  | .none => some .non
  | .bool b => some (.bl b)
  | .int i _ => some (.int i)
  | .str x _ => some (.str x)
  | .bytes b _ => some (.byt b)
  | .float b _ => some (.flt b)
  | .ref a => some (.ref a)
  | .type n => some (.ty n)
  | _ => none
theorem RelV.abs {x : V} {u : Value} (r : RelV x u) : absV u = some x := by
  cases x with
  | non => cases r; rfl
  | bl _ => cases r; rfl
  | int _ => obtain ⟨t, rfl⟩ := r; rfl
  | str _ => obtain ⟨t, rfl⟩ := r; rfl
  | byt _ => obtain ⟨t, rfl⟩ := r; rfl
  | flt _ => obtain ⟨t, rfl⟩ := r; rfl
  | ref _ => cases r; rfl
  | ty _ => cases r; rfl
theorem RelV.inj {x y : V} {u : Value} (r : RelV x u) (q : RelV y u) : x = y := Option.some.inj (r.abs.symm.trans q.abs)
theorem Vals.inj : ∀ {xs ys : List V} {us : List Value}, Vals xs us → Vals ys us → xs = ys
  | _, _, _, .nil, .nil => rfl
  | _, _, _, .cons r t, .cons r' t' => by rw [r.inj r', Vals.inj t t']
section
variable {X : Cx} {pins : List (Addr × Obj)} {σ : St} {H : Hp} {s : Shared} {a : Addr} {xs ys : List V}
theorem SqL.of {K : PySem.W.Frag} (h : H a = some (.lst xs)) : SqL K H a xs := .inl (.inl h)
theorem SqT.of {K : PySem.W.Frag} (h : H a = some (.tup xs)) : SqT K H a xs := .inl (.inl h)
theorem Inv.list (I : Inv X pins σ H s) (h : SqL X.K H a xs) : ∃ its : List Value, Vals xs its ∧ PlainL s.heap a its.toArray ∧ xs.length ≤ sizeLine := by
  rcases h with h | ⟨o, its, n, hk, hc, hd, hs, hz, r⟩
  · obtain ⟨z, its, n, r, e⟩ := h.ok I.hok
    exact ⟨its, r, ⟨_, n, e, rfl, rfl, rfl⟩, z⟩
  · refine ⟨its.toList, r, ⟨o, n, I.kIn a o hk, hc, hd, by simpa using hs⟩, ?_⟩
    have e := r.length
    simp only [Array.length_toList] at e
    omega
theorem Inv.tuple (I : Inv X pins σ H s) (h : SqT X.K H a xs) : ∃ its : List Value, Vals xs its ∧ IsTup s.heap a its.toArray ∧ xs.length ≤ sizeLine := by
  rcases h with h | ⟨o, its, n, hk, hc, hs, hz, r⟩
  · obtain ⟨z, its, r, p⟩ := h.ok I.hok
    exact ⟨its, r, p, z⟩
  · refine ⟨its.toList, r, ⟨o, I.kIn a o hk, hc, n, by simpa using hs⟩, ?_⟩
    have e := r.length
    simp only [Array.length_toList] at e
    omega
theorem Inv.list_inj (I : Inv X pins σ H s) (h : SqL X.K H a xs) (h' : SqL X.K H a ys) : xs = ys := by
  obtain ⟨its, r, ⟨o, n, e, _, _, d⟩, _⟩ := I.list h
  obtain ⟨its', r', ⟨o', n', e', _, _, d'⟩, _⟩ := I.list h'
  rw [e] at e'; cases e'
  rw [d] at d'
  injection d' with d1 _
  have : its = its' := by simpa using congrArg Array.toList d1
  subst this
  exact r.inj r'
end
abbrev Cx.wish (X : Cx) (E : Value → Shared → Prop) : Cx := { X with xe := E }
abbrev Cx.nox (X : Cx) : Cx := X.wish fun _ _ => False
theorem Cx.Ok.wish {X : Cx} (ok : X.Ok) (E : Value → Shared → Prop) : (X.wish E).Ok :=
  ⟨ok.mod, ok.kind, ok.glob, ok.blt, ok.above, ok.inj, ok.has, ok.cab, ok.hd, ok.frames, ok.stk, ok.exf, ok.bs, ok.bsz, ok.noex, ok.exfs, ok.funs, ok.frf⟩
theorem Cx.Ok.unwish {X : Cx} {E : Value → Shared → Prop} (ok : (X.wish E).Ok) : X.Ok :=
  ⟨ok.mod, ok.kind, ok.glob, ok.blt, ok.above, ok.inj, ok.has, ok.cab, ok.hd, ok.frames, ok.stk, ok.exf, ok.bs, ok.bsz, ok.noex, ok.exfs, ok.funs, ok.frf⟩
section
variable {X : Cx} {pins : List (Addr × Obj)} {σ : St} {H : Hp} {s : Shared} {E : Value → Shared → Prop}
theorem Inv.wish (I : Inv X pins σ H s) (E : Value → Shared → Prop) : Inv (X.wish E) pins σ H s := ⟨I.ok.wish E, I.os, I.bare, I.base, I.loc, I.cell, I.free, I.freeC, I.pin, I.hok, I.len⟩
theorem Inv.unwish (I : Inv (X.wish E) pins σ H s) : Inv X pins σ H s := ⟨I.ok.unwish, I.os, I.bare, I.base, I.loc, I.cell, I.free, I.freeC, I.pin, I.hok, I.len⟩
theorem SP.unwish {D : Ends} {f : Flow} {s' : Shared} (h : SP (X.wish E) pins D f s') : SP X pins D f s' := by
  cases f with
  | next => obtain ⟨σ', H', I, q⟩ := h; exact ⟨σ', H', I.unwish, q⟩
  | brk => obtain ⟨σ', H', I, q⟩ := h; exact ⟨σ', H', I.unwish, q⟩
  | cont => obtain ⟨σ', H', I, q⟩ := h; exact ⟨σ', H', I.unwish, q⟩
  | ret u => obtain ⟨v, σ', H', I, r, q⟩ := h; exact ⟨v, σ', H', I.unwish, r, q⟩
theorem PE.nox {e : Expr} {t : TE} (h : PE X.nox e t) : PE X e t := fun pins s σ H Q I hw =>
  wpAny_mono (h pins s σ H Q (I.wish _) hw) (fun _ _ ⟨v, H', I', r, q⟩ => ⟨v, H', I'.unwish, r, q⟩) fun _ _ z => False.elim z
theorem PT.nox {e : Expr} {t : TT} (h : PT X.nox e t) : PT X e t := fun pins s σ H Q I hw =>
  wpAny_mono (h pins s σ H Q (I.wish _) hw) (fun _ _ ⟨H', I', q⟩ => ⟨H', I'.unwish, q⟩) fun _ _ z => False.elim z
theorem PSs.nox {st : List Stmt} {t : TS} (h : PSs X.nox st t) : PSs X st t := fun pins s σ H D I hw =>
  wpAny_mono (h pins s σ H D (I.wish _) hw) (fun _ _ q => q.unwish) fun _ _ z => False.elim z
end
section
variable {X : Cx} {st : Stmt} {rest : List Stmt} {t u : TS} {e : Expr} {te : TE} {pos : Pos}
def tNext : TS := fun D σ H => D.nx σ H
def tSeq (t u : TS) : TS := fun D σ H => t { D with nx := u D } σ H
theorem pss_nil : PSs X [] tNext := fun _ _ σ H _ I h => wpAny_execs_nil ⟨σ, H, I, h⟩
theorem pss_cons (h1 : PS X st t) (h2 : PSs X rest u) : PSs X (st :: rest) (tSeq t u) := by
  intro pins s σ H D I h
  refine wpAny_execs_cons (thn (h1 pins s σ H { D with nx := u D } I h) fun f s1 q => ?_)
  cases f with
  | next =>
    obtain ⟨σ', H', I', q⟩ := q
    exact h2 pins s1 σ' H' D I' q
  | ret v => exact q
  | brk => exact q
  | cont => exact q
theorem pss_one (h1 : PS X st t) : PSs X [st] t := by
  intro pins s σ H D I h
  refine wpAny_execs_cons (thn (h1 pins s σ H D I h) fun f s1 q => ?_)
  cases f with
  | next => exact wpAny_execs_nil q
  | ret v => exact q
  | brk => exact q
  | cont => exact q
theorem Inv.quiet {pins : List (Addr × Obj)} {σ : St} {H : Hp} {s : Shared} (I : Inv X pins σ H s) : interactive X.env = false := by simp [interactive, I.ok.kind]
def tDrop (te : TE) : TS := fun D σ H => te σ H fun _ H1 => D.nx σ H1
theorem ps_expr (he : PE X e te) (hs : swapsWith e none pos.line X.env = pure false := by rfl) : PS X (.Expr e pos) (tDrop te) := by
  intro pins s σ H D I h
  exact wpAny_Expr_any (thn (he pins s σ H _ I h) fun v s1 ⟨x, H1, I1, r1, q1⟩ => ⟨σ, H1, I1, q1⟩) I.quiet hs
def tRet (te : TE) : TS := fun D σ H => te σ H D.rt
theorem ps_ret (he : PE X e te) : PS X (.Return (some e) pos) (tRet te) := by
  intro pins s σ H D I h
  exact wpAny_Return_some (thn (he pins s σ H _ I h) fun v s1 ⟨x, H1, I1, r1, q1⟩ => ⟨x, σ, H1, I1, r1, q1⟩)
def tIfS (c : TT) (t u : TS) : TS := fun D σ H => c σ H fun b H1 => if b = true then t D σ H1 else u D σ H1
theorem ps_if {c : Expr} {a b : List Stmt} {tc : TT} (hc : PT X c tc) (ha : PSs X a t) (hb : PSs X b u) : PS X (.If c a b pos) (tIfS tc t u) := by
  intro pins s σ H D I h
  refine wpAny_If (thn (hc pins s σ H _ I h) fun d s1 ⟨H1, I1, q1⟩ => ?_)
  cases d with
  | true => exact ha pins s1 σ H1 D I1 q1
  | false => exact hb pins s1 σ H1 D I1 q1
end
abbrev TG := V → St → Hp → (St → Hp → Prop) → Prop
abbrev TGs := List V → St → Hp → (St → Hp → Prop) → Prop
def PG (X : Cx) (target : Expr) (t : TG) : Prop :=
  ∀ (pins : List (Addr × Obj)) (s : Shared) (σ : St) (H : Hp) (v : V) (u : Value) (Q : St → Hp → Prop), Inv X pins σ H s → RelV v u → t v σ H Q →
    wpAny (model X.prog X.w) X.A (assign target X.env u) (fun _ s' => ∃ σ' H', Inv X pins σ' H' s' ∧ Q σ' H') X.xe s
def PGs (X : Cx) (ts : List Expr) (t : TGs) : Prop :=
  ∀ (pins : List (Addr × Obj)) (s : Shared) (σ : St) (H : Hp) (vs : List V) (us : List Value) (Q : St → Hp → Prop), Inv X pins σ H s → Vals vs us → t vs σ H Q →
    wpAny (model X.prog X.w) X.A (assignInOrder ((assignEach ts X.env).map (·.2)) us) (fun _ s' => ∃ σ' H', Inv X pins σ' H' s' ∧ Q σ' H') X.xe s
section
variable {X : Cx} {pos : Pos}
def gName (i : Nat) : TG := fun v σ H Q => Q (σ.set i (some v)) H
theorem pg_name {i : Nat} {x : Str} (hN : X.N.Nodup) (hi : X.N[i]? = some x) (hx : Loc X.env.scope x) (hf : X.fn x = true ∨ X.env.scope.names.lookup x = some .local := by first | exact .inl rfl | exact .inr rfl | assumption) : PG X (.Name x pos) (gName i) := by
  intro pins s σ H v u Q I r h
  exact wpAny_assign_Name (store_ok I hN hi hx r (fun s' I' => ⟨_, H, I', h⟩) hf)
def gNil : TGs := fun vs σ H Q => vs = [] ∧ Q σ H
def gCons (t : TG) (u : TGs) : TGs := fun vs σ H Q => ∃ v r, vs = v :: r ∧ t v σ H fun σ' H' => u r σ' H' Q
theorem pgs_nil : PGs X [] gNil := by
  intro pins s σ H vs us Q I r h
  obtain ⟨e, h⟩ := h
  subst e
  cases r
  exact assignInOrder_nil ⟨σ, H, I, h⟩
theorem pgs_cons {e : Expr} {es : List Expr} {t : TG} {u : TGs} (h1 : PG X e t) (h2 : PGs X es u)
    (hs : (assignEach (e :: es) X.env).map (·.2) = assign e X.env :: (assignEach es X.env).map (·.2) := by rfl) : PGs X (e :: es) (gCons t u) := by
  intro pins s σ H vs us Q I r h
  obtain ⟨v, vr, e1, h⟩ := h
  subst e1
  cases r with
  | cons r rr =>
    rw [hs]
    refine assignInOrder_cons (thn (h1 pins s σ H _ _ _ I r h) fun _ s1 ⟨σ1, H1, I1, q1⟩ => ?_)
    exact h2 pins s1 σ1 H1 _ _ Q I1 rr q1
def gTup (K : PySem.W.Frag) (n : Nat) (t : TGs) : TG := fun v σ H Q => ∃ a xs, v = .ref a ∧ SqT K H a xs ∧ xs.length = n ∧ t xs σ H Q
theorem pg_tup {es : List Expr} {k : Nat} {t : TGs} {n : Nat} (hc : X.calm = true) (h : PGs X es t)
    (hn : (assignEach es X.env).length = n := by rfl) (hst : (assignEach es X.env).findIdx? (·.1) = none := by rfl) : PG X (.Tuple es k pos) (gTup X.K n t) := by
  intro pins s σ H v u Q I r hw
  obtain ⟨a, xs, e1, hq, hl, hw⟩ := hw
  subst e1
  cases r
  obtain ⟨its, rv, ht, hz⟩ := I.tuple hq
  refine assign_Tuple_tuple (I.ok.hd hc) ht (by simp [hn, ← hl, rv.length]) hst fun h' hx => ?_
  have I1 : Inv X pins σ H { s with heap := h' } := I.kept (t' := s.toks) fun b o e => hx b o (Nat.ne_of_lt (Heap.lt_size e)) e
  exact h pins _ σ H xs _ Q I1 (by simpa using rv) hw
def tAsg (te : TE) (g : TG) : TS := fun D σ H => te σ H fun x H1 => g x σ H1 D.nx
theorem ps_asg {tg e : Expr} {te : TE} {g : TG} (he : PE X e te) (hg : PG X tg g) (hs : swapsWithSole [tg] e pos.line X.env = pure false := by rfl) (hw : swappedStores [tg] e X.env = pure none := by rfl)
    (h1 : (assignEach [tg] X.env).map (·.2) = [assign tg X.env] := by rfl) : PS X (.Assign [tg] e pos) (tAsg te g) := by
  intro pins s σ H D I h
  refine wpAny_Assign_stores (thn (he pins s σ H _ I h) fun v s1 ⟨x, H1, I1, r1, q1⟩ => ?_) hs hw
  rw [h1]
  exact thn (hg pins s1 σ H1 x v _ I1 r1 q1) fun _ s2 q => q
theorem ps_set {i : Nat} {x : Str} {e : Expr} {te : TE} {pos' : Pos} (hN : X.N.Nodup) (hi : X.N[i]? = some x) (hx : Loc X.env.scope x) (he : PE X e te) (hs : swapsWith e (some (.Name x pos')) pos.line X.env = pure false := by rfl) (hf : X.fn x = true ∨ X.env.scope.names.lookup x = some .local := by first | exact .inl rfl | exact .inr rfl | assumption) :
    PS X (.Assign [.Name x pos'] e pos) (tAsg te (gName i)) := by
  intro pins s σ H D I h
  refine wpAny_Assign_Name (thn (he pins s σ H _ I h) fun v s1 ⟨y, H1, I1, r1, q1⟩ => ?_) hs
  exact store_ok I1 hN hi hx r1 (fun s2 I2 => ⟨_, H1, I2, q1⟩) hf
end
section
variable {X : Cx} {pos : Pos}
end
structure It where
  go : Nat → Hp → Prop
  yld : Nat → Hp → V → Hp → Prop
  stop : Nat → Hp → Prop
def FpOk (X : Cx) (pins : List (Addr × Obj)) (H : Hp) (b : Addr) : Prop :=
  H b = none ∧ b ≠ X.env.locals ∧ b ∉ X.fs ∧ (b ∈ X.ex ∨ X.s₀.heap.objs.size ≤ b) ∧ (∀ x c, X.env.cells.lookup x = some c → c ≠ b) ∧ ∀ p ∈ X.pn ++ pins, p.1 ≠ b
theorem Inv.fpOk {X : Cx} {pins : List (Addr × Obj)} {σ : St} {H H' : Hp} {s : Shared} {b : Addr} (I : Inv X pins σ H s) (hb : s.heap.objs.size ≤ b) (hn : H' b = none) : FpOk X pins H' b := by
  refine ⟨hn, Nat.ne_of_gt (Nat.lt_of_lt_of_le I.lt hb), I.nofs hb, .inr (Nat.le_trans I.sz hb), fun x c e z => ?_, fun p hp z => ?_⟩
  · obtain ⟨v, q⟩ := I.cell x c e
    exact absurd (Nat.lt_of_lt_of_le q.lt (by rw [z]; exact hb)) (Nat.lt_irrefl _)
  · exact absurd (Nat.lt_of_lt_of_le (Heap.lt_size (I.pin p hp).1) (by rw [z]; exact hb)) (Nat.lt_irrefl _)
structure Turn (P : Program) (w : World) (K : PySem.W.Frag) (tg : Expr) (J : It) (fp : List Addr) (it : Addr) (tn : Nat → Heap → Prop) : Prop where
  mem : it ∈ fp
  obj : ∀ i h, tn i h → ∀ b ∈ fp, ∃ o, h.get? b = some o ∧ ∀ v, o.data ≠ .cell v
  keep : ∀ i h h', tn i h → (∀ b ∈ fp, ∀ o, h.get? b = some o → h'.get? b = some o) → tn i h'
  item : ∀ (X : Cx), X.prog = P → X.w = w → X.K = K → X.calm = true → ∀ (i : Nat) (pins : List (Addr × Obj)) (s : Shared) (σ : St) (H : Hp) (E : Value → Shared → Prop), Inv X pins σ H s → (∀ b ∈ fp, FpOk X pins H b) → tn i s.heap → J.go i H →
    wpAny (model P w) X.A (pyNext (.ref it)) (fun r s1 => ∃ u, r = some u ∧
      wpAny (model P w) X.A (letOwnedTupleGo tg (.ref it) u) (fun _ s2 => ∃ x H', Inv X pins σ H' s2 ∧ RelV x u ∧ J.yld i H x H' ∧ tn (i + 1) s2.heap ∧ ∀ b ∈ fp, H' b = none) E s1) E s
  done : ∀ (X : Cx), X.prog = P → X.w = w → X.K = K → X.calm = true → ∀ (i : Nat) (pins : List (Addr × Obj)) (s : Shared) (σ : St) (H : Hp) (E : Value → Shared → Prop), Inv X pins σ H s → (∀ b ∈ fp, FpOk X pins H b) → tn i s.heap → J.stop i H →
    wpAny (model P w) X.A (pyNext (.ref it)) (fun r s1 => r = none ∧ Inv X pins σ H s1) E s
  self : ∀ (A : Around) (i : Nat) (s : Shared) (Q : Value → Shared → Prop) (E : Value → Shared → Prop), tn i s.heap → Q (.ref it) s → wpAny (model P w) A (pyIter (.ref it)) Q E s
abbrev TI := St → Hp → (It → Hp → Prop) → Prop
def PIE (X : Cx) (pins : List (Addr × Obj)) (σ : St) (tg : Expr) (R : It → Hp → Prop) (itv : Value) (s2 : Shared) : Prop :=
  ∃ (it : Addr) (fp : List Addr) (tn : Nat → Heap → Prop) (J : It) (H' : Hp), itv = .ref it ∧ Inv X pins σ H' s2 ∧ Turn X.prog X.w X.K tg J fp it tn ∧ tn 0 s2.heap ∧ (∀ b ∈ fp, FpOk X pins H' b) ∧ R J H'
def PI (X : Cx) (tg iter : Expr) (wi : TI) : Prop :=
  ∀ (pins : List (Addr × Obj)) (s : Shared) (σ : St) (H : Hp) (R : It → Hp → Prop), Inv X pins σ H s → wi σ H R →
    wpAny (model X.prog X.w) X.A (eval iter X.env) (fun v s1 => wpAny (model X.prog X.w) X.A (pyIter v) (PIE X pins σ tg R) X.xe s1) X.xe s

theorem go_of {M : Model} {A : Around} {E : Value → Shared → Prop} {s : Shared} {tg : Expr} {it : Addr} {u : Value} {o : Obj} {n : String} {vs : Array Value} {Q : Unit → Shared → Prop} (ho : s.heap.get? it = some o) (hc : o.cls = .type n) (hd : o.data = .fields vs)
    (hn : ["enumerate", "zip", "dict_itemiterator", "dict_reverseitemiterator", "odict_iterator", "itertools.zip_longest", "itertools.pairwise"].contains n = false) (hQ : Q () s) : wpAny M A (letOwnedTupleGo tg (.ref it) u) Q E s := by
  unfold letOwnedTupleGo
  cases tg <;> first
    | exact wpAny_pure hQ
    | (cases u <;> first
        | exact wpAny_pure hQ
        | (refine wpAny_bind (wpAny_load ho ?_)
           rw [hc, hd]
           show wpAny M A (if (["enumerate", "zip", "dict_itemiterator", "dict_reverseitemiterator", "odict_iterator", "itertools.zip_longest", "itertools.pairwise"].contains n && vs[0]? == some (rawInt _)) = true then _ else _) Q E s
           rw [if_neg (by intro h; rw [hn, Bool.false_and] at h; cases h)]
           exact wpAny_pure hQ))

def Itl (K : PySem.W.Frag) (a : Addr) : It :=
  ⟨fun i H => ∃ xs x, SqL K H a xs ∧ xs[i]? = some x, fun i H x H' => H' = H ∧ ∀ xs, SqL K H a xs → xs[i]? = some x, fun i H => ∃ xs, SqL K H a xs ∧ xs.length ≤ i⟩
def Itr (lo : Int) (n : Nat) : It := ⟨fun i _ => i < n, fun i H x H' => H' = H ∧ x = .int (lo + i), fun i _ => n ≤ i⟩
theorem turn_list {P : Program} {w : World} {K : PySem.W.Frag} {tg : Expr} (a it : Addr) : Turn P w K tg (Itl K a) [it] it (fun i h => h.IsListIter it a i) where
  mem := by simp
  obj := fun i h st b hb => by
    have e : b = it := by simpa using hb
    subst e
    obtain ⟨o, e, c, d⟩ := st
    exact ⟨o, e, fun v z => by rw [d] at z; cases z⟩
  keep := fun i h h' st k => st.at fun o e => k it (by simp) o e
  item := by
    intro X hP hw hK hc i pins s σ H E I hf st hg
    subst hP hw hK
    obtain ⟨xs, x, hq, hx⟩ := hg
    obtain ⟨its, rv, p, hz⟩ := I.list hq
    obtain ⟨u, hu, ru⟩ := rv.get hx
    obtain ⟨f0, f1, f2, f3, f4, f5⟩ := hf it (by simp)
    refine wpAny_pyNext_list_item st p.isList (x := u) (by simpa using hu) fun h' st' sb => ?_
    have I1 : Inv X pins σ H { s with heap := h' } := I.turned (t' := s.toks) (fun b o hb e => (sb.2 b hb).trans e) f0 f1 f3 f4 f5
    obtain ⟨o, e, c, d⟩ := id st'
    exact ⟨u, rfl, go_of (s := { s with heap := h' }) e c d (by decide) ⟨x, H, I1, ru, ⟨rfl, fun ys hy => by rw [I.list_inj hy hq]; exact hx⟩, st', fun b hb => (hf b hb).1⟩⟩
  done := by
    intro X hP hw hK hc i pins s σ H E I hf st hg
    subst hP hw hK
    obtain ⟨xs, hq, hx⟩ := hg
    obtain ⟨its, rv, p, hz⟩ := I.list hq
    obtain ⟨f0, f1, f2, f3, f4, f5⟩ := hf it (by simp)
    have hl := rv.length
    exact wpAny_pyNext_list_end (I.ok.hd hc) st p.isList (by simp; omega) fun h' eb => ⟨rfl, I.turned (t' := s.toks) (fun b o hb e => eb b o hb e) f0 f1 f3 f4 f5⟩
  self := fun _ _ _ _ _ st h => wpAny_pyIter_listiter st h
theorem turn_range {P : Program} {w : World} {K : PySem.W.Frag} {tg : Expr} (it : Addr) (lo : Int) (n : Nat) : Turn P w K tg (Itr lo n) [it] it (fun i h => IsRangeIter h it (lo + (i : Nat) * 1) ((n : Int) - (i : Nat)) 1) where
  mem := by simp
  obj := fun i h st b hb => by
    have e : b = it := by simpa using hb
    subst e
    exact ⟨_, st, fun v z => by
      have z' : Data.fields _ = Data.cell v := z
      cases z'⟩
  keep := fun i h h' st k => k it (by simp) _ st
  item := by
    intro X hP hw hK hc i pins s σ H E I hf st hg
    subst hP hw hK
    obtain ⟨f0, f1, f2, f3, f4, f5⟩ := hf it (by simp)
    have W := Walks.range (prog := X.prog) (w := X.w) (I.ok.hd hc) it lo 1 n
    refine W.item i s _ _ hg st fun v h' tk hv st' kk => ?_
    obtain ⟨t, rfl⟩ := hv
    have I1 : Inv X pins σ H { s with heap := h', toks := tk } := I.turned (fun b o hb e => kk b o (by simpa using hb) e) f0 f1 f3 f4 f5
    refine ⟨_, rfl, go_of (s := { s with heap := h', toks := tk }) (n := "range_iterator") st' rfl rfl (by decide) ⟨.int (lo + i), H, I1, ⟨t, ?_⟩, ⟨rfl, rfl⟩, st', fun b hb => (hf b hb).1⟩⟩
    rw [Int.mul_one]
  done := by
    intro X hP hw hK hc i pins s σ H E I hf st hg
    subst hP hw hK
    obtain ⟨f0, f1, f2, f3, f4, f5⟩ := hf it (by simp)
    exact wpAny_pyNext_range_end (I.ok.hd hc) st (by have : n ≤ i := hg; omega) fun h' eb => ⟨rfl, I.turned (t' := s.toks) (fun b o hb e => eb b o hb e) f0 f1 f3 f4 f5⟩
  self := fun _ _ _ _ _ st h => wpAny_pyIter_rangeiter st h
end L2
namespace L2
open PySem PySem.Spec PyProof.Rows
section
variable {X : Cx} {tg : Expr}
def iList (K : PySem.W.Frag) (tl : TE) : TI := fun σ H R => tl σ H fun x H1 => ∃ a, x = .ref a ∧ (∃ xs, SqL K H1 a xs) ∧ R (Itl K a) H1
theorem pi_list {l : Expr} {tl : TE} (hl : PE X l tl) : PI X tg l (iList X.K tl) := by
  intro pins s σ H R I h
  refine thn (hl pins s σ H _ I h) fun v s1 ⟨x, H1, I1, r1, q1⟩ => ?_
  obtain ⟨a, e, ⟨xs, hq⟩, q⟩ := q1
  subst e
  cases r1
  obtain ⟨its, rv, p, hz⟩ := I1.list hq
  refine wpAny_pyIter_list p.isList ?_
  refine ⟨s1.heap.objs.size, [s1.heap.objs.size], _, _, H1, rfl, I1.kept (t' := s1.toks) fun b o e => Heap.get?_push_of_some _ e, turn_list a _, ⟨_, Heap.get?_push_size _ rfl, rfl, rfl⟩, fun b hb => ?_, q⟩
  have e : b = s1.heap.objs.size := by simpa using hb
  subst e
  exact I1.fpOk (Nat.le_refl _) (I1.hok.fresh (Nat.le_refl _))
theorem range_it {pins : List (Addr × Obj)} {σ : St} {H : Hp} {s : Shared} {R : It → Hp → Prop} {E : Value → Shared → Prop} {lo hi : Int} {t u v : Tok} {tk : Nat} (I : Inv X pins σ H s) (h1 : -(2 ^ 62) ≤ lo) (h2 : lo < 2 ^ 62) (h3 : -(2 ^ 62) ≤ hi) (h4 : hi < 2 ^ 62)
    (q : R (Itr lo (hi - lo).toNat) H) : wpAny (model X.prog X.w) X.A (pyIter (.ref s.heap.objs.size)) (PIE X pins σ tg R) E { s with heap := s.heap.push { cls := .type "range", data := .fields #[.int lo t, .int hi u, .int 1 v] }, toks := tk } := by
  refine wpAny_pyIter_range (IsRange.new ..) (small_one h1 h2 h3 h4) ?_
  have I1 : Inv X pins σ H { s with heap := s.heap.push { cls := .type "range", data := .fields #[.int lo t, .int hi u, .int 1 v] }, toks := tk } := I.kept fun b o e => Heap.get?_push_of_some _ e
  refine ⟨(s.heap.push { cls := .type "range", data := .fields #[.int lo t, .int hi u, .int 1 v] }).objs.size, [(s.heap.push { cls := .type "range", data := .fields #[.int lo t, .int hi u, .int 1 v] }).objs.size], _, _, H, rfl,
    I1.kept (t' := tk) fun b o e => Heap.get?_push_of_some _ e, turn_range _ lo (hi - lo).toNat, ?_, fun b hb => ?_, q⟩
  · have e1 : lo + ((0 : Nat) : Int) * 1 = lo := by simp
    have e2 : (((hi - lo).toNat : Nat) : Int) - ((0 : Nat) : Int) = Builtin.Range.rangeSize lo hi 1 := by rw [rangeSize_one]; split <;> omega
    show IsRangeIter _ _ (lo + ((0 : Nat) : Int) * 1) ((((hi - lo).toNat : Nat) : Int) - ((0 : Nat) : Int)) 1
    rw [e1, e2]
    exact Heap.get?_push_size _ rfl
  · have e : b = (s.heap.push { cls := .type "range", data := .fields #[.int lo t, .int hi u, .int 1 v] }).objs.size := by simpa using hb
    subst e
    exact I1.fpOk (Nat.le_refl _) (I1.hok.fresh (Nat.le_refl _))
def iRng2 (ta : TA) : TI := fun σ H R => ta σ H fun vs H1 => ∃ i j : Int, vs = [.int i, .int j] ∧ (-(2 ^ 62) ≤ i ∧ i < 2 ^ 62 ∧ -(2 ^ 62) ≤ j ∧ j < 2 ^ 62) ∧ R (Itr i (j - i).toNat) H1
theorem pi_range2 {a b : Expr} {ta : TA} {p pos : Pos} (hg : Gl X "range") (hm : X.mg "range" = none) (ha : PA X [a, b] ta) (hs : starEach [a, b] X.env = [(false, eval a X.env), (false, eval b X.env)] := by rfl) (hs2 : starEach [b] X.env = [(false, eval b X.env)] := by rfl) :
    PI X tg (.Call (.Name "range" p) [a, b] [] pos) (iRng2 ta) := by
  intro pins s σ H R I h
  refine Call_ (ld_blt I hg hm boot_range (PyProof.Rows.callWith_type1 (thn (ha pos pins s σ H _ I h) fun us s1 ⟨vs, H1, I1, r1, q1⟩ => ?_) (by rw [hs, hs2]) (by rw [hs2]; rfl)))
  obtain ⟨i, j, e, ⟨q1, q2, q3, q4⟩, q⟩ := q1
  subst e
  cases r1 with
  | cons r rr =>
    cases rr with
    | cons r' rr =>
      cases rr
      obtain ⟨t, rfl⟩ := r
      obtain ⟨t', rfl⟩ := r'
      exact call_range_2 (range_it I1 q1 q2 q3 q4 q)

def tFor (wi : TI) (g : TG) (tb : TS) : TS := fun D σ H => wi σ H fun J H1 => ∃ W : Nat → Nat → St → Hp → Prop, (∃ m, W 0 m σ H1) ∧ ∀ i m σ H, W i m σ H →
  (J.stop i H ∧ D.nx σ H) ∨ (J.go i H ∧ ∃ N : St → Hp → Prop, (∀ σ' H', N σ' H' → ∃ m', m' < m ∧ W (i + 1) m' σ' H') ∧ ∀ x H', J.yld i H x H' → g x σ H' fun σ2 H2 => tb { D with nx := N, ct := N, bk := D.nx } σ2 H2)
def pinsAt (fp : List Addr) (h : Heap) : List (Addr × Obj) := fp.filterMap fun b => (h.get? b).map fun o => (b, o)
theorem mem_pinsAt {fp : List Addr} {h : Heap} {b : Addr} {o : Obj} (hb : b ∈ fp) (e : h.get? b = some o) : (b, o) ∈ pinsAt fp h := List.mem_filterMap.mpr ⟨b, hb, by rw [e]; rfl⟩
theorem of_pinsAt {fp : List Addr} {h : Heap} {p : Addr × Obj} (hp : p ∈ pinsAt fp h) : p.1 ∈ fp ∧ h.get? p.1 = some p.2 := by
  obtain ⟨b, hb, e⟩ := List.mem_filterMap.mp hp
  cases q : h.get? b with
  | none => rw [q] at e; cases e
  | some o =>
    rw [q] at e
    have e' : (b, o) = p := Option.some.inj e
    subst e'
    exact ⟨hb, q⟩
theorem Inv.pinned {pins : List (Addr × Obj)} {σ : St} {H : Hp} {s : Shared} {fp : List Addr} (I : Inv X pins σ H s) (hf : ∀ b ∈ fp, FpOk X pins H b) (ho : ∀ b ∈ fp, ∃ o, s.heap.get? b = some o ∧ ∀ v, o.data ≠ .cell v) : Inv X (pins ++ pinsAt fp s.heap) σ H s :=
  I.pins_of fun p hp => (List.mem_append.mp hp).elim (fun z => I.pin p (List.mem_append_right _ z)) fun z => by
    obtain ⟨hb, e⟩ := of_pinsAt z
    obtain ⟨f0, f1, f2, _⟩ := hf p.1 hb
    obtain ⟨o, e', d⟩ := ho p.1 hb
    rw [e] at e'; cases e'
    exact ⟨e, f0, f1, f2, d⟩
theorem Inv.unpinned {pins pl : List (Addr × Obj)} {σ : St} {H : Hp} {s : Shared} (I : Inv X (pins ++ pl) σ H s) : Inv X pins σ H s := I.pins_of fun p hp => I.pin p (List.mem_append_right _ (List.mem_append_left _ hp))
theorem ps_for {iter : Expr} {body : List Stmt} {wi : TI} {g : TG} {tb : TS} {pos : Pos} (hp : PassesOwn (model X.prog X.w) X.A X.env X.xe) (hc : X.calm = true) (hi : PI X tg iter wi) (hg : PG X tg g) (hb : PSs X body tb)
    (hs : ∀ x, foldedSetIterable iter X.env x = pure x := by intro _; rfl) : PS X (.For tg iter body [] pos) (tFor wi g tb) := by
  intro pins s σ H D I h
  refine wpAny_For (thn (hi pins s σ H _ I h) fun v s1 h1 => thn h1 fun itv s2 h2 => ?_) hs
  obtain ⟨it, fp, tn, J, H2, e, I2, T, st2, f2, W, ⟨m0, w0⟩, turn⟩ := h2
  subst e
  -- what stays true of the iterator's objects through the loop
  have stat : ∀ {H' : Hp}, (∀ b ∈ fp, H' b = none) → ∀ b ∈ fp, FpOk X pins H' b := fun hn b hb => ⟨hn b hb, (f2 b hb).2⟩
  refine codeAny_forLoop_any (fun n s' => ∃ i σ' H', Inv X pins σ' H' s' ∧ tn i s'.heap ∧ (∀ b ∈ fp, H' b = none) ∧ W i n σ' H') ?_ m0 ⟨0, σ, H2, I2, st2, fun b hb => (f2 b hb).1, w0⟩
  rintro n s3 ⟨i, σ3, H3, I3, st3, fr3, w3⟩
  rcases turn i n σ3 H3 w3 with ⟨stop, qn⟩ | ⟨go, N, hN, step⟩
  · refine wpAny_passesOwn hp (thn (T.done X rfl rfl rfl hc i pins s3 σ3 H3 X.xe I3 (stat fr3) st3 stop) fun r s4 ⟨hr, I4⟩ => ?_)
    subst hr
    exact wpAny_execs_nil ⟨σ3, H3, I4, qn⟩
  · refine wpAny_passesOwn hp (thn (T.item X rfl rfl rfl hc i pins s3 σ3 H3 X.xe I3 (stat fr3) st3 go) fun r s4 ⟨u, hr, h4⟩ => ?_)
    subst hr
    refine wpAny_passesOwn hp (thn h4 fun _ s5 ⟨x, H5, I5, r5, y5, st5, fr5⟩ => ?_)
    have I5' := I5.pinned (stat fr5) (T.obj _ _ st5)
    refine wpAny_passesOwn hp (thn (hg _ s5 σ3 H5 x u _ I5' r5 (step x H5 y5)) fun _ s6 ⟨σ6, H6, I6, q6⟩ => ?_)
    refine wpAny_passesOwn hp (thn (hb _ s6 σ6 H6 _ I6 q6) fun f s7 q7 => ?_)
    have again : ∀ {σ7 : St} {H7 : Hp}, Inv X (pins ++ pinsAt fp s5.heap) σ7 H7 s7 → N σ7 H7 → ∃ m, m < n ∧ ∃ i σ' H', Inv X pins σ' H' s7 ∧ tn i s7.heap ∧ (∀ b ∈ fp, H' b = none) ∧ W i m σ' H' := fun {σ7 H7} I7 n7 => by
      obtain ⟨m', hm, w7⟩ := hN σ7 H7 n7
      refine ⟨m', hm, i + 1, σ7, H7, I7.unpinned, T.keep _ _ _ st5 fun b hb o e => (I7.pin (b, o) (List.mem_append_right _ (List.mem_append_right _ (mem_pinsAt hb e)))).1, fun b hb => ?_, w7⟩
      obtain ⟨o, e, d⟩ := T.obj _ _ st5 b hb
      exact (I7.pin (b, o) (List.mem_append_right _ (List.mem_append_right _ (mem_pinsAt hb e)))).2.1
    cases f with
    | next => obtain ⟨σ7, H7, I7, n7⟩ := q7; exact again I7 n7
    | cont => obtain ⟨σ7, H7, I7, n7⟩ := q7; exact again I7 n7
    | brk => obtain ⟨σ7, H7, I7, q7⟩ := q7; exact ⟨σ7, H7, I7.unpinned, q7⟩
    | ret v => obtain ⟨x7, σ7, H7, I7, r7, q7⟩ := q7; exact ⟨x7, σ7, H7, I7.unpinned, r7, q7⟩
end
end L2
namespace L2
open PySem PySem.Spec PyProof.Rows
abbrev R2 := V → V → Hp → VK → Prop
def OpR (X : Cx) (f : Value → Value → Sem Value) (r : R2) : Prop :=
  ∀ (pins : List (Addr × Obj)) (s : Shared) (σ : St) (H : Hp) (x y : V) (v u : Value) (Q : VK), Inv X pins σ H s → RelV x v → RelV y u → r x y H Q →
    wpAny (model X.prog X.w) X.A (f v u) (EP X pins σ Q) X.xe s
def CallR (X : Cx) (f : Value) (r : List V → Hp → VK → Prop) : Prop :=
  ∀ (pins : List (Addr × Obj)) (s : Shared) (σ : St) (H : Hp) (xs : List V) (us : List Value) (Q : VK), Inv X pins σ H s → Vals xs us → r xs H Q →
    wpAny (model X.prog X.w) X.A (call f us) (EP X pins σ Q) X.xe s
def tOp (r : R2) (ta tb : TE) : TE := fun σ H Q => ta σ H fun x H1 => tb σ H1 fun y H2 => r x y H2 Q
def rI (C : Int → Int → Prop) (g : Int → Int → V) : R2 := fun x y H Q => ∃ i j, x = .int i ∧ y = .int j ∧ C i j ∧ Q (g i j) H
def rI0 (g : Int → Int → V) : R2 := fun x y H Q => ∃ i j, x = .int i ∧ y = .int j ∧ Q (g i j) H
section
variable {X : Cx} {a b c : Expr} {ta tb tc : TE} {pos : Pos}
theorem binT (ha : PE X a ta) (hb : PE X b tb) {pins : List (Addr × Obj)} {s : Shared} {σ : St} {H : Hp} {R : V → V → Hp → Prop} (I : Inv X pins σ H s)
    (h : ta σ H fun x H1 => tb σ H1 fun y H2 => R x y H2) {Q : Value → Shared → Prop} {f : Value → Value → Sem Value}
    (hf : ∀ v u s2 x y H2, Inv X pins σ H2 s2 → RelV x v → RelV y u → R x y H2 → wpAny (model X.prog X.w) X.A (f v u) Q X.xe s2) :
    wpAny (model X.prog X.w) X.A (eval a X.env) (fun v s₁ => wpAny (model X.prog X.w) X.A (eval b X.env) (fun u s₂ => wpAny (model X.prog X.w) X.A (f v u) Q X.xe s₂) X.xe s₁) X.xe s := by
  refine thn (ha pins s σ H _ I h) fun v s1 ⟨x, H1, I1, r1, q1⟩ => ?_
  refine thn (hb pins s1 σ H1 _ I1 q1) fun u s2 ⟨y, H2, I2, r2, q2⟩ => ?_
  exact hf v u s2 x y H2 I2 r1 r2 q2

theorem pe_op {op : Operator} {r : R2} (ho : OpR X (binaryOp op) r) (ha : PE X a ta) (hb : PE X b tb) : PE X (.BinOp a op b pos) (tOp r ta tb) := by
  intro pins s σ H Q I h
  exact wpAny_BinOp (binT ha hb I h fun v u s2 x y H2 I2 rx ry q => ho pins s2 σ H2 x y v u Q I2 rx ry q)
theorem opI {f : Value → Value → Sem Value} {C : Int → Int → Prop} {g : Int → Int → Int}
    (rule : ∀ (i j : Int) (t u : Tok) (s : Shared) (Q : Value → Shared → Prop) (E : Value → Shared → Prop), C i j → Q (.int (g i j) s.toks) { s with toks := s.toks + 1 } → wpAny (model X.prog X.w) X.A (f (.int i t) (.int j u)) Q E s) :
    OpR X f (rI C fun i j => .int (g i j)) := by
  intro pins s σ H x y v u Q I rx ry h
  obtain ⟨i, j, rfl, rfl, hc, q⟩ := h
  obtain ⟨t, rfl⟩ := rx
  obtain ⟨t', rfl⟩ := ry
  exact rule i j t t' s _ _ hc ⟨.int (g i j), H, I.tok _, ⟨_, rfl⟩, q⟩
theorem opI0 {f : Value → Value → Sem Value} {g : Int → Int → Int}
    (rule : ∀ (i j : Int) (t u : Tok) (s : Shared) (Q : Value → Shared → Prop) (E : Value → Shared → Prop), Q (.int (g i j) s.toks) { s with toks := s.toks + 1 } → wpAny (model X.prog X.w) X.A (f (.int i t) (.int j u)) Q E s) :
    OpR X f (rI0 fun i j => .int (g i j)) := by
  intro pins s σ H x y v u Q I rx ry h
  obtain ⟨i, j, rfl, rfl, q⟩ := h
  obtain ⟨t, rfl⟩ := rx
  obtain ⟨t', rfl⟩ := ry
  exact rule i j t t' s _ _ ⟨.int (g i j), H, I.tok _, ⟨_, rfl⟩, q⟩
theorem opB0 {f : Value → Value → Sem Value} {g : Int → Int → Bool}
    (rule : ∀ (i j : Int) (t u : Tok) (s : Shared) (Q : Value → Shared → Prop) (E : Value → Shared → Prop), Q (.bool (g i j)) s → wpAny (model X.prog X.w) X.A (f (.int i t) (.int j u)) Q E s) :
    OpR X f (rI0 fun i j => .bl (g i j)) := by
  intro pins s σ H x y v u Q I rx ry h
  obtain ⟨i, j, rfl, rfl, q⟩ := h
  obtain ⟨t, rfl⟩ := rx
  obtain ⟨t', rfl⟩ := ry
  exact rule i j t t' s _ _ ⟨.bl (g i j), H, I, rfl, q⟩

def CPow (i j : Int) : Prop := 0 ≤ j ∧ j ≤ 1000000 ∧ i.natAbs < 2 ^ 64
def CMul (i j : Int) : Prop := (-(2 ^ 64) < i ∧ i < 2 ^ 64) ∨ (-(2 ^ 64) < j ∧ j < 2 ^ 64)
theorem CMul.ok {i j : Int} (h : CMul i j) : IntMulOk i j := by
  rcases h with ⟨h1, h2⟩ | ⟨h1, h2⟩
  · exact .of_left (intBits_le_64 h1 h2)
  · exact .of_right (intBits_le_64 h1 h2)
theorem op_add : OpR X (binaryOp .Add) (rI0 fun i j => .int (i + j)) := opI0 fun _ _ _ _ _ _ _ q => add_int q
theorem op_sub : OpR X (binaryOp .Sub) (rI0 fun i j => .int (i - j)) := opI0 fun _ _ _ _ _ _ _ q => sub_int q
theorem op_mul : OpR X (binaryOp .Mult) (rI CMul fun i j => .int (i * j)) := opI fun _ _ _ _ _ _ _ hc q => mul_int q hc.ok
theorem op_mod : OpR X (binaryOp .Mod) (rI (fun _ j => 0 < j) fun i j => .int (i % j)) := opI fun i j _ _ _ _ _ hc q => by
  have h1 : (0 : Int) < j := hc
  exact mod_int' (by omega) (by rw [Int.fmod_eq_emod_of_nonneg i (by omega)]; exact q)
theorem op_pow : OpR X (binaryOp .Pow) (rI CPow fun i j => .int (i ^ j.toNat)) := opI fun _ _ _ _ _ _ _ hc q => pow_int_small hc.1 hc.2.1 hc.2.2 q
end
section
variable {X : Cx} {a b c : Expr} {ta tb tc : TE} {pos : Pos}
theorem fin_bl {pins : List (Addr × Obj)} {σ : St} {H : Hp} {s : Shared} {Q : VK} {k k' : Bool} (I : Inv X pins σ H s) (q : Q (.bl k) H) (e : k = k') : EP X pins σ Q (.bool k') s := by
  subst e
  exact ⟨.bl k, H, I, rfl, q⟩
theorem op_lt : OpR X (compareOp .Lt) (rI0 fun i j => .bl (decide (i < j))) := opB0 fun _ _ _ _ _ _ _ q => lt_int q
theorem op_le : OpR X (compareOp .LtE) (rI0 fun i j => .bl (decide (i ≤ j))) := opB0 fun _ _ _ _ _ _ _ q => le_int q
theorem op_gt : OpR X (compareOp .Gt) (rI0 fun i j => .bl (decide (j < i))) := opB0 fun _ _ _ _ _ _ _ q => gt_int q
theorem op_notN : OpR X (compareOp .IsNot) (fun x y H Q => y = .non ∧ Q (.bl (!decide (x = .non))) H) := by
  intro pins s σ H x y v u Q I rx ry h
  obtain ⟨rfl, q⟩ := h
  cases ry
  refine isnot_none_gen (fin_bl I q ?_)
  cases x <;> first
    | (cases rx; rfl)
    | (obtain ⟨t, rfl⟩ := rx; rfl)

def isObj : HO → Bool
  | .lst _ => true
  | .ins _ _ _ => true
  | _ => false
theorem obj_there {pins : List (Addr × Obj)} {s : Shared} {σ : St} {H : Hp} {a : Addr} {o : HO} (I : Inv X pins σ H s) (h : H a = some o) (p : isObj o = true) : ∃ ob, s.heap.get? a = some ob ∧ ob.cls ≠ .type "tuple" := by
  cases o with
  | lst xs =>
    obtain ⟨_, its, n, _, e⟩ : xs.length ≤ sizeLine ∧ ∃ (its : List Value) (n : Nat), Vals xs its ∧ s.heap.get? a = some { cls := .type "list", data := .seq its.toArray n } := I.hok a _ h
    exact ⟨_, e, (by show Value.type "list" ≠ .type "tuple"; decide +kernel)⟩
  | ins C dx fs =>
    have x := I.hok a _ h
    obtain ⟨_, _, _, e, _⟩ := x
    exact ⟨_, e, (by show Value.ref C ≠ .type "tuple"; exact fun z => by cases z)⟩
  | _ => exact absurd (show false = true from p) Bool.false_ne_true
theorem OpR.or {f : Value → Value → Sem Value} {r r' : R2} (h : OpR X f r) (h' : OpR X f r') : OpR X f (fun x y H Q => r x y H Q ∨ r' x y H Q) := by
  intro pins s σ H x y v u Q I rx ry q
  rcases q with q | q
  · exact h pins s σ H x y v u Q I rx ry q
  · exact h' pins s σ H x y v u Q I rx ry q

theorem nomark (b : Expr) {op : CmpOp} (h : op ≠ .In := by decide) (h2 : op ≠ .NotIn := by decide) : behindInMarks op b = false := by
  have e1 : (op == CmpOp.In) = false := by cases op <;> first | rfl | exact absurd rfl h
  have e2 : (op == CmpOp.NotIn) = false := by cases op <;> first | rfl | exact absurd rfl h2
  cases b <;> simp [behindInMarks, e1, e2]
theorem pe_cmpR {op : CmpOp} {r : R2} (ho : OpR X (compareOp op) r) (ha : PE X a ta) (hb : PE X b tb) (hm : behindInMarks op b = false) : PE X (.Compare a [op] [b] pos) (tOp r ta tb) := by
  intro pins s σ H Q I h
  exact wpAny_Compare1 (binT ha hb I h fun v u s2 x y H2 I2 rx ry q => ho pins s2 σ H2 x y v u Q I2 rx ry q) hm
def tTest (t : TE) : TT := fun σ H Q => t σ H fun x H' => ∃ k, x = .bl k ∧ Q k H'
theorem pt_cmpR {op : CmpOp} {r : R2} (ho : OpR X (compareOp op) r) (ha : PE X a ta) (hb : PE X b tb) (hm : behindInMarks op b = false) : PT X (.Compare a [op] [b] pos) (tTest (tOp r ta tb)) := by
  intro pins s σ H Q I h
  refine wpAny_isTrue_Compare1 (thn (ha pins s σ H _ I h) fun v s1 ⟨x, H1, I1, r1, q1⟩ => thn (hb pins s1 σ H1 _ I1 q1) fun u s2 ⟨y, H2, I2, r2, q2⟩ =>
    thn (ho pins s2 σ H2 x y v u _ I2 r1 r2 q2) fun c s3 ⟨z, H3, I3, r3, k, e, q3⟩ => ?_) hm
  subst e
  cases r3
  exact wpAny_truthy_bool ⟨H3, I3, q3⟩
def tChain (r r' : R2) (ta tb tc : TE) : TE := fun σ H Q => ta σ H fun x H1 => tb σ H1 fun y H2 => r x y H2 fun z H3 => ∃ k, z = .bl k ∧
  (if k = true then tc σ H3 fun w' H4 => r' y w' H4 Q else Q (.bl false) H3)
theorem pe_chain {op op' : CmpOp} {r r' : R2} (ho : OpR X (compareOp op) r) (ho' : OpR X (compareOp op') r') (ha : PE X a ta) (hb : PE X b tb) (hc : PE X c tc)
    (hm : lastMarks [op, op'] [b, c] = false := by with_unfolding_all rfl) : PE X (.Compare a [op, op'] [b, c] pos) (tChain r r' ta tb tc) := by
  intro pins s σ H Q I h
  refine Compare_chain (thn (ha pins s σ H _ I h) fun v s1 ⟨x, H1, I1, r1, q1⟩ => chain_link (thn (hb pins s1 σ H1 _ I1 q1) fun u s2 ⟨y, H2, I2, r2, q2⟩ =>
    thn (ho pins s2 σ H2 x y v u _ I2 r1 r2 q2) fun d s3 ⟨z, H3, I3, r3, k, e, q3⟩ => ?_)) hm
  subst e
  cases r3
  refine wpAny_truthy_bool ?_
  cases k with
  | false => exact ite_ff ⟨.bl false, H3, I3, rfl, q3⟩
  | true => exact ite_tt (chain_last (thn (hc pins s3 σ H3 _ I3 q3) fun w' s4 ⟨z', H4, I4, r4, q4⟩ => ho' pins s4 σ H4 y z' u w' Q I4 r2 r4 q4))
theorem pt_chain {op op' : CmpOp} {r r' : R2} (ho : OpR X (compareOp op) r) (ho' : OpR X (compareOp op') r') (ha : PE X a ta) (hb : PE X b tb) (hc : PE X c tc)
    (hm : lastMarks [op, op'] [b, c] = false := by with_unfolding_all rfl) : PT X (.Compare a [op, op'] [b, c] pos) (tTest (tChain r r' ta tb tc)) := by
  intro pins s σ H Q I h
  refine isTrue_chain (thn (ha pins s σ H _ I h) fun v s1 ⟨x, H1, I1, r1, q1⟩ => test_link (thn (hb pins s1 σ H1 _ I1 q1) fun u s2 ⟨y, H2, I2, r2, q2⟩ =>
    thn (ho pins s2 σ H2 x y v u _ I2 r1 r2 q2) fun d s3 ⟨z, H3, I3, r3, k, e, q3⟩ => ?_)) hm
  subst e
  cases r3
  refine wpAny_truthy_bool ?_
  cases k with
  | false =>
    obtain ⟨k', e', q'⟩ := q3
    cases e'
    exact ite_ff ⟨H3, I3, q'⟩
  | true =>
    refine ite_tt (test_last (thn (hc pins s3 σ H3 _ I3 q3) fun w' s4 ⟨z', H4, I4, r4, q4⟩ => thn (ho' pins s4 σ H4 y z' u w' _ I4 r2 r4 q4) fun d' s5 ⟨z2, H5, I5, r5, k2, e2, q5⟩ => ?_))
    subst e2
    cases r5
    exact wpAny_truthy_bool ⟨H5, I5, q5⟩

theorem line63 : (sizeLine : Nat) < 2 ^ 63 := by rw [sizeLine_eq]; decide
theorem op_add_str : OpR X (binaryOp .Add) (fun x y H Q => ∃ i j, x = .str i ∧ y = .str j ∧ i.length + j.length ≤ sizeLine ∧ Q (.str (i ++ j)) H) := by
  intro pins s σ H x y v u Q I rx ry h
  obtain ⟨i, j, rfl, rfl, hz, q⟩ := h
  obtain ⟨t, rfl⟩ := rx
  obtain ⟨t', rfl⟩ := ry
  exact add_str (fun t' tk => ⟨.str (i ++ j), H, I.tok _, ⟨_, rfl⟩, q⟩) hz
theorem vals1 {x : V} {us : List Value} (r : Vals [x] us) : ∃ u, us = [u] ∧ RelV x u := by
  cases r with
  | cons r1 r2 => cases r2; exact ⟨_, rfl, r1⟩
theorem vals2 {x y : V} {us : List Value} (r : Vals [x, y] us) : ∃ u w', us = [u, w'] ∧ RelV x u ∧ RelV y w' := by
  cases r with
  | cons r1 r2 =>
    cases r2 with
    | cons r3 r4 => cases r4; exact ⟨_, _, rfl, r1, r3⟩
theorem call_max2 (hc : X.calm = true) : CallR X (.builtin "max") (fun xs H Q => ∃ i j, xs = [.int i, .int j] ∧ Q (.int (if j > i then j else i)) H) := by
  intro pins s σ H xs us Q I r h
  obtain ⟨i, j, rfl, q⟩ := h
  obtain ⟨u, w', rfl, ⟨t, rfl⟩, ⟨t', rfl⟩⟩ := vals2 r
  refine max_two_ints (I.ok.hd hc) fun h' tk k => ⟨_, H, I.kept k, ?_, q⟩
  by_cases hj : j > i
  · rw [if_pos hj, if_pos hj]; exact ⟨_, rfl⟩
  · rw [if_neg hj, if_neg hj]; exact ⟨_, rfl⟩
theorem call_min2 (hc : X.calm = true) : CallR X (.builtin "min") (fun xs H Q => ∃ i j, xs = [.int i, .int j] ∧ Q (.int (if j < i then j else i)) H) := by
  intro pins s σ H xs us Q I r h
  obtain ⟨i, j, rfl, q⟩ := h
  obtain ⟨u, w', rfl, ⟨t, rfl⟩, ⟨t', rfl⟩⟩ := vals2 r
  refine min_two_ints (I.ok.hd hc) fun h' tk k => ⟨_, H, I.kept k, ?_, q⟩
  by_cases hj : j < i
  · rw [if_pos hj, if_pos hj]; exact ⟨_, rfl⟩
  · rw [if_neg hj, if_neg hj]; exact ⟨_, rfl⟩
end
end L2
namespace L2
open PySem PySem.Spec PyProof.Rows
section
variable {prog : Program} {w : World} {A : Around} {E : Value → Shared → Prop} {s : Shared} {K : PySem.W.Frag} {x dx C f : Addr} {mA : Str → Option Value} {name : Str} {v : Value}
end
theorem RelO.some_of {v : V} {o : Option Value} (r : RelO (some v) o) : ∃ u, o = some u ∧ RelV v u := by
  cases o with
  | none => exact (show False from r).elim
  | some u => exact ⟨u, rfl, r⟩
section
variable {P : Program} {w : World} {H H' : Hp} {h h' : Heap} {a C dx : Addr} {fs fs' : List (Str × V)}
end
structure Cls (K : PySem.W.Frag) (C : Addr) : Prop where
  pg : PySem.W.plainGet K C Str.empty = true
  hd : PySem.W.hasDictIn K C = true
  po : PySem.W.plainOver K C = true
  sa : PySem.W.findIn K (.ref C) "__setattr__" = some (some (.builtin "object.__setattr__"))
theorem Cls.get {K : PySem.W.Frag} {C : Addr} (c : Cls K C) (f : Str) : PySem.W.plainGet K C f = true := c.pg
structure Meth (K : PySem.W.Frag) (C : Addr) (m : Str) (f : Addr) : Prop where
  at_ : PySem.W.findIn K (.ref C) m = some (some (.ref f))
  fn : PySem.W.isFn K (.ref f) = true
  kp : PySem.W.keepIn K (.ref f) = true

section
variable {X : Cx} {pins : List (Addr × Obj)} {σ : St} {H : Hp} {s : Shared} {a C dx : Addr} {fs : List (Str × V)} {f : Str} {v : V} {A : Around} {E : Value → Shared → Prop}
theorem Inv.made (I : Inv X pins σ H s) : Inv X pins σ (upd (upd H s.heap.objs.size (.own (s.heap.objs.size + 1))) (s.heap.objs.size + 1) (.ins C s.heap.objs.size []))
    { s with heap := (s.heap.push PySem.W.emptyDict).push (PySem.W.instObj C s.heap.objs.size) } := by
  have e1 : (s.heap.push PySem.W.emptyDict).get? s.heap.objs.size = some PySem.W.emptyDict := Heap.get?_push_size s.heap rfl
  have e2 : ((s.heap.push PySem.W.emptyDict).push (PySem.W.instObj C s.heap.objs.size)).get? (s.heap.objs.size + 1) = some (PySem.W.instObj C s.heap.objs.size) := by
    have := Heap.get?_push_size (s.heap.push PySem.W.emptyDict) (o := PySem.W.instObj C s.heap.objs.size) rfl
    rwa [Heap.size_push] at this
  have e3 : (s.heap.push PySem.W.emptyDict).Ns s.heap.objs.size (fun _ => none) := ⟨PySem.W.emptyDict, #[], _, e1, rfl, (fun e he => absurd he (by simp)), fun _ => rfl⟩
  have I1 := I.laid (a := s.heap.objs.size) (o := .own (s.heap.objs.size + 1)) (h' := s.heap.push PySem.W.emptyDict) (t' := s.toks) (fun b u q => Heap.get?_push_of_some _ q) (Nat.le_refl _) ⟨_, e1⟩
  refine I1.laid (a := s.heap.objs.size + 1) (o := .ins C s.heap.objs.size []) (t' := s.toks) (fun b u q => Heap.get?_push_of_some _ q) (Nat.le_of_eq (Heap.size_push _ _)) ?_
  have ne : s.heap.objs.size ≠ s.heap.objs.size + 1 := Nat.ne_of_lt (Nat.lt_succ_self _)
  refine ⟨by rw [upd_ne ne, upd_same], Nat.zero_le _, ne, e2, fun _ => none, (Heap.Ns1.of_empty e3).at fun o q => Heap.get?_push_of_some _ q, fun _ => True.intro, fun y hy => absurd rfl hy⟩

end
section
variable {X : Cx} {o e value : Expr} {f : Str} {pos pos' tpos : Pos} {ta tv : TE}
end
section
variable {X : Cx} {pins : List (Addr × Obj)} {σ : St} {H : Hp} {s : Shared} {A : Around} {E : Value → Shared → Prop} {Q : Value → Shared → Prop} {c : Value} {b : Bool}
end
end L2
namespace L2
open PySem PySem.Spec PyProof.Rows
structure Room (k : Nat) (A : Around) : Prop where
  hd : A.handled = none
  dp : A.depth + 3 * k + 5 < recursionLimit
  un : A.units + 16 * k + 200 < cLine
  gd : A.guards = some []
theorem Room.mono {j k : Nat} {A : Around} (r : Room k A) (h : j ≤ k) : Room j A := ⟨r.hd, by have := r.dp; omega, by have := r.un; omega, r.gd⟩
theorem Room.deeper {k : Nat} {A : Around} (r : Room (k + 1) A) (env : Env) : Room k (A.deeper env) :=
  ⟨r.hd, by have := r.dp; show A.depth + 1 + 3 * k + 5 < _; omega, by have := r.un; show A.units + 3 + 16 * k + 200 < _; omega, r.gd⟩
theorem Room.in1 {k : Nat} {A : Around} (r : Room (k + 1) A) : Room k A.in1 :=
  ⟨r.hd, by have := r.dp; show A.depth + 3 * k + 5 < _; omega, by have := r.un; show A.units + 1 + 16 * k + 200 < _; omega, r.gd⟩
theorem Room.depth {k : Nat} {A : Around} (r : Room k A) : A.depth < recursionLimit := by have := r.dp; omega
theorem Room.units {k : Nat} {A : Around} (r : Room k A) : A.units + 64 < cLine := by have := r.un; omega
def tNil : TA := fun _ H Q => Q [] H
def tCons (ta : TE) (tr : TA) : TA := fun σ H Q => ta σ H fun x H1 => tr σ H1 fun xs H2 => Q (x :: xs) H2
section
variable {X : Cx} {e : Expr} {es : List Expr} {te : TE} {t : TA} {pos : Pos}
theorem pa_nil : PA X [] tNil := fun _ _ _ _ H Q I h => Calls.spliced_nil ⟨[], H, I, .nil, h⟩
theorem pa_cons (ha : PE X e te) (hr : PA X es t) (hs : starEach (e :: es) X.env = (false, eval e X.env) :: starEach es X.env := by rfl) : PA X (e :: es) (tCons te t) := by
  intro pos pins s σ H Q I h
  rw [hs]
  show wpAny _ _ (spliced ((false, eval e X.env) :: backTo pos (starEach es X.env))) _ _ s
  refine Calls.spliced_cons (thn (ha pins s σ H _ I h) fun u s1 ⟨x, H1, I1, r1, q1⟩ => ?_)
  exact thn (hr pos pins s1 σ H1 _ I1 q1) fun us s2 ⟨xs, H2, I2, r2, q2⟩ => ⟨x :: xs, H2, I2, .cons r1 r2, q2⟩

def tTup (t : TA) : TE := fun σ H Q => t σ H fun xs H1 => xs.length ≤ sizeLine ∧ ∀ p, H1 p = none → Q (.ref p) (upd H1 p (.tup xs))
def tLst (t : TA) : TE := fun σ H Q => t σ H fun xs H1 => xs.length ≤ sizeLine ∧ ∀ p, H1 p = none → Q (.ref p) (upd H1 p (.lst xs))
theorem pe_tup {x1} (h : PA X es t) : PE X (.Tuple es x1 pos) (tTup t) := by
  intro pins s σ H Q I hq
  refine wpAny_Tuple_spliced (thn (h pos pins s σ H _ I hq) fun us s1 ⟨xs, H1, I1, r, z, q⟩ => ⟨by rw [← r.length]; exact z, ?_⟩)
  have hf : H1 s1.heap.objs.size = none := I1.hok.fresh (Nat.le_refl _)
  refine ⟨.ref s1.heap.objs.size, upd H1 s1.heap.objs.size (.tup xs), I1.laid (t' := s1.toks) (fun b u e => Heap.get?_push_of_some _ e) (Nat.le_refl _) ?_, rfl, q _ hf⟩
  exact ⟨z, us, r, ⟨_, Heap.get?_push_size _ rfl, rfl, _, rfl⟩⟩
theorem pe_lst (h : PA X es t) : PE X (.List es pos) (tLst t) := by
  intro pins s σ H Q I hq
  refine wpAny_List_spliced (thn (h pos pins s σ H _ I hq) fun us s1 ⟨xs, H1, I1, r, z, q⟩ => ⟨by rw [← r.length]; exact z, ?_⟩)
  have hf : H1 s1.heap.objs.size = none := I1.hok.fresh (Nat.le_refl _)
  refine ⟨.ref s1.heap.objs.size, upd H1 s1.heap.objs.size (.lst xs), I1.laid (t' := s1.toks) (fun b u e => Heap.get?_push_of_some _ e) (Nat.le_refl _) ?_, rfl, q _ hf⟩
  exact ⟨z, us, 0, r, Heap.get?_push_size _ rfl⟩
end
abbrev Sp := List V → Hp → VK → XK → Prop
abbrev CXT := List Env → Hp → Shared → XK → Value → Shared → Prop

structure Env0 (P : Program) (w : World) (K : PySem.W.Frag) (mg : Str → Option Value) (base : Heap) (A : Around) (outer : List Env) (s : Shared) (H : Hp) : Prop where
  frames : A.frames = some outer
  mod : Mod K mg base
  bs : ∀ b o, base.get? b = some o → s.heap.get? b = some o ∧ H b = none
  bsz : base.objs.size ≤ s.heap.objs.size
  funs : s.heap.FunFrames base outer
  frf : ∀ b ∈ frs outer, H b = none
  hok : HOk P w H s.heap
  bare : AllBare s.gens
def CE (outer : List Env) (P : Program) (w : World) (H : Hp) (s : Shared) (Q : VK) (u : Value) (s' : Shared) : Prop :=
  ∃ v H', s'.os = s.os ∧ AllBare s'.gens ∧ Un (frs outer) [] H H' s.heap s'.heap ∧ HOk P w H' s'.heap ∧ RelV v u ∧ Q v H'
def CR (CX : CXT) (outer : List Env) (P : Program) (w : World) (H : Hp) (s : Shared) (Q : VK) (E : XK) (r : Result) (s' : Shared) : Prop :=
  match r with
  | .ok (.ret u) => CE outer P w H s Q u s'
  | .ok _ => False
  | .error e => CX outer H s E e s'
structure FnOk (P : Program) (w : World) (K : PySem.W.Frag) (mg : Str → Option Value) (base : Heap) (CX : CXT) (k : Nat) (f : Addr) (fd : FuncData) (ps : List Str) (sp : Sp) : Prop where
  len : ∀ vs H Q E, sp vs H Q E → vs.length = ps.length
  run : ∀ (A : Around) (outer : List Env) (s : Shared) (H : Hp) (args : Args) (us : List Value) (vs : List V) (Q : VK) (E : XK), Room k A → Env0 P w K mg base A outer s H → BindsTo s fd args (ps.zip us) → Vals vs us → sp vs H Q E →
    codeAny (model P w) A (.call (.ref f) args) (CR CX outer P w H s Q E) s
theorem FnOk.mono {P : Program} {w : World} {K : PySem.W.Frag} {mg : Str → Option Value} {base : Heap} {CX : CXT} {j k : Nat} {f : Addr} {fd : FuncData} {ps : List Str} {sp : Sp} (F : FnOk P w K mg base CX j f fd ps sp) (h : j ≤ k) :
    FnOk P w K mg base CX k f fd ps sp := ⟨F.len, fun A outer s H args us vs Q E hr => F.run A outer s H args us vs Q E (hr.mono h)⟩
theorem FnOk.imp {P : Program} {w : World} {K : PySem.W.Frag} {mg : Str → Option Value} {base : Heap} {CX : CXT} {k : Nat} {f : Addr} {fd : FuncData} {ps : List Str} {sp sp' : Sp} (F : FnOk P w K mg base CX k f fd ps sp)
    (h : ∀ vs H Q E, sp' vs H Q E → sp vs H Q E) : FnOk P w K mg base CX k f fd ps sp' :=
  ⟨fun vs H Q E q => F.len vs H Q E (h _ _ _ _ q), fun A outer s H args us vs Q E hr he hb hv hs => F.run A outer s H args us vs Q E hr he hb hv (h _ _ _ _ hs)⟩

theorem Env0.in1 {P : Program} {w : World} {K : PySem.W.Frag} {mg : Str → Option Value} {base : Heap} {A : Around} {outer : List Env} {s : Shared} {H : Hp} (e : Env0 P w K mg base A outer s H) :
    Env0 P w K mg base A.in1 outer s H := ⟨e.frames, e.mod, e.bs, e.bsz, e.funs, e.frf, e.hok, e.bare⟩

section
variable {X : Cx} {pins : List (Addr × Obj)} {σ : St} {H : Hp} {s s' : Shared}
theorem Inv.env0 (I : Inv X pins σ H s) : Env0 X.prog X.w X.K X.mg X.base X.A X.stack s H :=
  ⟨I.ok.frames, I.ok.mod, I.bs, Nat.le_trans I.ok.bsz I.sz, I.stack, I.stkFree, I.hok, I.bare⟩
theorem Inv.after {Q : VK} {u : Value} (I : Inv X pins σ H s) (h : CE X.stack X.prog X.w H s Q u s') : EP X pins σ Q u s' := by
  obtain ⟨v, H', os, bare, un, hok, r, q⟩ := h
  obtain ⟨hh, g, d, t, os'⟩ := s'
  obtain rfl : os' = s.os := os
  exact ⟨v, H', I.call (h' := hh) (g' := g) (d' := d) (t' := t) (ch := []) un hok bare (fun b z => absurd z (by simp)), r, q⟩
end
def tCall (sp : Sp) (dvs : List V) (E : XK) (t : TA) : TE := fun σ H Q => t σ H fun vs H1 => sp (vs ++ dvs) H1 Q E
def Binds (K : PySem.W.Frag) (fd : FuncData) (ps : List Str) (ds : List Value) : Prop :=
  ∀ (s : Shared) (us : List Value), K.In s.heap → (us ++ ds).length = ps.length → BindsTo s fd ⟨us, []⟩ (ps.zip (us ++ ds))
theorem Binds.all {K : PySem.W.Frag} {fd : FuncData} {ps : List Str} (h : ∀ us : List Value, us.length = ps.length → bindArgs fd ⟨us, []⟩ = pure (ps.zip us)) : Binds K fd ps [] := fun s us _ hl => by
  rw [List.append_nil] at hl ⊢
  exact .of_eq (h us hl)

def Passes (CX : CXT) (X : Cx) (E : XK) : Prop := ∀ (pins : List (Addr × Obj)) (σ : St) (H : Hp) (s : Shared) (e : Value) (s' : Shared), Inv X pins σ H s → CX X.stack H s E e s' → X.xe e s'

section
variable {X : Cx} {CX : CXT} {k : Nat} {f C : Addr} {fd : FuncData} {ps : List Str} {sp : Sp} {dvs : List V} {ds : List Value} {E : XK} {x m : Str} {p pos apos : Pos} {e o : Expr} {es : List Expr} {ta : TE} {t : TA}
theorem run_fn {pins : List (Addr × Obj)} {σ : St} {H : Hp} {s : Shared} {Q : VK} {us : List Value} {vs : List V} (F : FnOk X.prog X.w X.K X.mg X.base CX k f fd ps sp) (hr : Room k X.A) (hb : Binds X.K fd ps ds) (hd : Vals dvs ds) (hx : Passes CX X E)
    (I : Inv X pins σ H s) (r : Vals vs us) (h : sp (vs ++ dvs) H Q E) : wpAny (model X.prog X.w) X.A (call (.ref f) us) (EP X pins σ Q) X.xe s := by
  have r2 : Vals (vs ++ dvs) (us ++ ds) := r.append hd
  have hl : (us ++ ds).length = ps.length := by rw [← r2.length]; exact F.len _ _ _ _ h
  refine wpAny_call (codeAny_mono (F.run X.A X.stack s H ⟨us, []⟩ (us ++ ds) (vs ++ dvs) Q E hr I.env0 (hb s us I.kIn hl) r2 h) fun r s' hq => ?_)
  cases r with
  | error e => exact hx pins σ H s e s' I hq
  | ok fl =>
    cases fl with
    | ret u => exact I.after hq
    | next => exact False.elim hq
    | brk => exact False.elim hq
    | cont => exact False.elim hq

theorem pe_call (F : FnOk X.prog X.w X.K X.mg X.base CX k f fd ps sp) (hr : Room k X.A) (hg : Gl X x) (hm : X.mg x = some (.ref f)) (hk : PySem.W.keepIn X.K (.ref f) = true) (hb : Binds X.K fd ps ds) (hd : Vals dvs ds) (hx : Passes CX X E)
    (ha : PA X (e :: es) t) (hdb : (x == ("__debug__" : Str)) = false := by decide) (he : starEach (e :: es) X.env = (false, eval e X.env) :: starEach es X.env := by rfl) (hpl : (backTo pos (starEach es X.env)).any (·.1) = false := by rfl) :
    PE X (.Call (.Name x p) (e :: es) [] pos) (tCall sp dvs E t) := by
  intro pins s σ H Q I h
  refine wpAny_Call_Name_kw (ld_glob I hg hm ?_ hdb)
  refine PySem.W.callWith_K (h₀ := X.base) I.ok.mod.kin hk (thn (ha pos pins s σ H _ I h) fun us s1 ⟨vs, H1, I1, r, q⟩ => ⟨I1.kIn, ?_⟩) he hpl
  exact run_fn F hr hb hd hx I1 r q
end
section
variable {X : Cx} {CX : CXT} {k : Nat} {f C : Addr} {fd : FuncData} {ps ks : List Str} {sp : Sp} {E : XK} {x m : Str} {p pos apos kpos : Pos} {e o : Expr} {es : List Expr} {kws : List Keyword} {te ta : TE} {t tk : TA} {nm : Option Str}
variable {g : List Value → List Value → List Value} {gV : List V → List V → List V}
end
structure FnScope (N P : List Str) (sc : Scope) : Prop where
  kind : sc.kind = .function
  co : sc.isCoroutine = false
  gen : sc.isGenerator = false
  nd : N.Nodup
  pre : N.take P.length = P
  par : ∀ x ∈ P, sc.names.lookup x = some .local ∨ sc.names.lookup x = some .cell
  nofree : ∀ y ∈ sc.names, y.2 ≠ .free

theorem bindL_out {kindOf : Str → Option NameKind} {x : Str} : ∀ {binds : List (Str × Value)} {m : Str → Option Value}, (∀ v, (x, v) ∉ binds) → bindL kindOf binds m x = m x
  | [], _, _ => rfl
  | (n, v) :: r, m, h => by
    unfold bindL
    rw [bindL_out fun w hw => h w (List.mem_cons_of_mem _ hw)]
    split
    · have : x ≠ n := by rintro rfl; exact h v List.mem_cons_self
      simp [this]
    · rfl
theorem bindC_out {kindOf : Str → Option NameKind} {x : Str} : ∀ {binds : List (Str × Value)} {m : Str → Option Value}, (∀ v, (x, v) ∉ binds) → bindC kindOf binds m x = m x
  | [], _, _ => rfl
  | (n, v) :: r, m, h => by
    unfold bindC
    rw [bindC_out fun w hw => h w (List.mem_cons_of_mem _ hw)]
    split
    · rfl
    · have : x ≠ n := by rintro rfl; exact h v List.mem_cons_self
      simp [this]
theorem bindL_get {kindOf : Str → Option NameKind} {x : Str} {v : Value} : ∀ {P : List Str} {vs : List Value} {i : Nat} {m : Str → Option Value}, P.Nodup → P[i]? = some x → vs[i]? = some v → kindOf x = some .local →
    bindL kindOf (P.zip vs) m x = some v
  | [], _, _, _, _, h, _, _ => by simp at h
  | _ :: _, [], _, _, _, _, h, _ => by simp at h
  | p :: P, w :: vs, 0, m, nd, h1, h2, hk => by
    simp at h1 h2; subst h1; subst h2
    show bindL kindOf ((p, w) :: P.zip vs) m p = _
    unfold bindL
    rw [bindL_out fun v hv => (List.nodup_cons.mp nd).1 (List.of_mem_zip hv).1, if_pos hk]
    simp
  | p :: P, w :: vs, i + 1, m, nd, h1, h2, hk => by
    show bindL kindOf ((p, w) :: P.zip vs) m x = _
    unfold bindL
    exact bindL_get (i := i) (List.nodup_cons.mp nd).2 (by simpa using h1) (by simpa using h2) hk
theorem bindC_get {kindOf : Str → Option NameKind} {x : Str} {v : Value} : ∀ {P : List Str} {vs : List Value} {i : Nat} {m : Str → Option Value}, P.Nodup → P[i]? = some x → vs[i]? = some v → kindOf x ≠ some .local →
    bindC kindOf (P.zip vs) m x = some v
  | [], _, _, _, _, h, _, _ => by simp at h
  | _ :: _, [], _, _, _, _, h, _ => by simp at h
  | p :: P, w :: vs, 0, m, nd, h1, h2, hk => by
    simp at h1 h2; subst h1; subst h2
    show bindC kindOf ((p, w) :: P.zip vs) m p = _
    unfold bindC
    rw [bindC_out fun v hv => (List.nodup_cons.mp nd).1 (List.of_mem_zip hv).1, if_neg hk]
    simp
  | p :: P, w :: vs, i + 1, m, nd, h1, h2, hk => by
    show bindC kindOf ((p, w) :: P.zip vs) m x = _
    unfold bindC
    exact bindC_get (i := i) (List.nodup_cons.mp nd).2 (by simpa using h1) (by simpa using h2) hk

def start (N : List Str) (vs : List V) : St := vs.map some ++ List.replicate (N.length - vs.length) none

def cxOf (CX : CXT) (P : Program) (w : World) (K : PySem.W.Frag) (mg : Str → Option Value) (base : Heap) (N : List Str) (qual : Str) (scope : Scope) (f : Addr) (cd : Value) (A : Around) (outer : List Env) (s : Shared) (H : Hp) (E : XK) : Cx where
  prog := P
  w := w
  K := K
  mg := mg
  base := base
  A := A.deeper (envOfC qual scope s.heap.objs.size f cd)
  N := N
  s₀ := s
  H₀ := H
  env := envOfC qual scope s.heap.objs.size f cd
  outer := outer
  stack := envOfC qual scope s.heap.objs.size f cd :: outer
  ex := []
  calm := true
  fn := fun _ => true
  pn := []
  xe := fun e s' => wpAny (model P w) (A.deeper (envOfC qual scope s.heap.objs.size f cd)) (leaving (envOfC qual scope s.heap.objs.size f cd) e) (fun _ s'' => CX outer H s E e s'') (fun e' s'' => CX outer H s E e' s'') s'

theorem cell_has {sc : Scope} {n : Nat} {x : Str} (h : sc.names.lookup x = some .cell) : ∃ c, (cellsFrom n sc.names []).lookup x = some c := by
  have q := PySem.W.cellsFrom_some sc.names n [] (.inl h)
  exact Option.isSome_iff_exists.mp q

theorem inv_start {CX : CXT} {P : Program} {w : World} {K : PySem.W.Frag} {mg : Str → Option Value} {base : Heap} {N ps : List Str} {qual : Str} {scope : Scope} {f : Addr} {cd : Value} {A : Around} {outer : List Env} {s s1 : Shared} {H : Hp} {E : XK} {us : List Value} {vs : List V}
    (S : FnScope N ps scope) (hd : A.handled = none) (e0 : Env0 P w K mg base A outer s H) (hl : vs.length = ps.length) (r : Vals vs us)
    (x : InCallC s s.heap.objs.size (bindL (envOfC qual scope s.heap.objs.size f cd).kindOf (ps.zip us) fun _ => none) (cellsFrom (s.heap.objs.size + 1) scope.names []) (bindC (envOfC qual scope s.heap.objs.size f cd).kindOf (ps.zip us) fun _ => none) s1) :
    Inv (cxOf CX P w K mg base N qual scope f cd A outer s H E) [] (start N vs) H s1 := by
  have hpl : ps.length ≤ N.length := by have := congrArg List.length S.pre; rw [List.length_take] at this; omega
  obtain ⟨h1, tk, rfl, hk⟩ := x.done
  have noA : ∀ b : Addr, b ∉ (cxOf CX P w K mg base N qual scope f cd A outer s H E).ex := fun b z => absurd (show b ∈ ([] : List Addr) from z) (by simp)
  refine ⟨⟨e0.mod, S.kind, rfl, rfl, Nat.le_refl _, fun y z c h1 h2 => ?_, fun y hy => ?_, fun y c _ h => ?_, fun _ => hd, Around.frames_deeper e0.frames, .inr ⟨rfl, rfl⟩, fun b z => absurd z (noA b), e0.bs, e0.bsz, fun b _ _ => noA b, fun b z => absurd z (noA b), e0.funs, e0.frf⟩,
    rfl, e0.bare, Un.kept hk, ⟨_, x.toInCall.ns, fun i y v h1 h2 h3 => ?_⟩, fun y c h => ⟨_, x.cell y c h⟩, e0.hok.fresh (Nat.le_refl _), fun y c h => ?_, fun p hp => absurd (show p ∈ ([] : List (Addr × Obj)) from hp) (by simp), e0.hok.kept hk, ?_⟩
  · exact name_of_addr x.apart (PySem.mem_of_lookup h1) (PySem.mem_of_lookup h2)
  · have hy : scope.names.lookup y = some .cell ∨ scope.names.lookup y = some .free := hy
    rcases hy with hy | hy
    · exact cell_has hy
    · exact absurd rfl (S.nofree _ (PySem.mem_of_lookup hy))
  · exact Nat.le_of_lt (x.above y c (PySem.mem_of_lookup h))
  · have hi : i < vs.length := by
      unfold start at h2
      by_cases hi : i < vs.length
      · exact hi
      · rw [List.getElem?_append_right (by simpa using hi)] at h2
        rw [List.getElem?_replicate] at h2
        split at h2 <;> cases h2
    have ha : vs[i]? = some v := by
      unfold start at h2
      rw [List.getElem?_append_left (by simpa using hi), List.getElem?_map] at h2
      cases e : vs[i]? with
      | none => rw [e] at h2; cases h2
      | some a => rw [e] at h2; cases h2; rfl
    obtain ⟨u, hu, rv⟩ := r.get ha
    have hp : ps[i]? = some y := by
      rw [← S.pre, List.getElem?_take_of_lt (by omega)]; exact h1
    have ndP : ps.Nodup := by rw [← S.pre]; exact S.nd.sublist (List.take_sublist _ _)
    refine ⟨u, rv, ?_⟩
    rcases S.par y (List.mem_of_getElem? hp) with k | k
    · exact .inl ⟨k, bindL_get ndP hp hu k⟩
    · obtain ⟨c, e⟩ := cell_has (n := s.heap.objs.size + 1) k
      refine .inr ⟨.inl k, c, e, ?_⟩
      have q := x.cell y c e
      rw [bindC_get ndP hp hu (by show scope.names.lookup y ≠ _; rw [k]; decide)] at q
      exact q
  · exact e0.hok.fresh (Nat.le_of_lt (x.above y c (PySem.mem_of_lookup h)))
  · unfold start
    show _ = N.length
    rw [List.length_append, List.length_map, List.length_replicate]
    omega

theorem fn_of {CX : CXT} {P : Program} {w : World} {K : PySem.W.Frag} {mg : Str → Option Value} {base : Heap} {k : Nat} {f : Addr} {name qual : Str} {params : Arguments} {body : List Stmt} {scope : Scope} {dV kV doc pm cdv ct oc : Value} {an od : Option Addr}
    {osl : Array (Option Value)} {N ps : List Str} {sp : Sp} (lk : K.lookup f = some ⟨oc, od, .func (PySem.W.fnOf name qual params body scope dV kV doc pm an cdv ct), osl⟩) (hcd : PySem.W.codeIn K cdv qual = true) (S : FnScope N ps scope)
    (len : ∀ vs H Q E, sp vs H Q E → vs.length = ps.length)
    (hbody : ∀ (A : Around) (outer : List Env) (s : Shared) (H : Hp) (vs : List V) (Q : VK) (E : XK), Room k (A.deeper (envOfC qual scope s.heap.objs.size f cdv)) → sp vs H Q E →
      ∃ t, PSs (cxOf CX P w K mg base N qual scope f cdv A outer s H E) body t ∧ t { nx := fun _ H' => Q .non H', rt := Q } (start N vs) H) :
    FnOk P w K mg base CX (k + 1) f (PySem.W.fnOf name qual params body scope dV kV doc pm an cdv ct) ps sp := by
  refine ⟨len, fun A outer s H args us vs Q E hr e0 hb r hsp => ?_⟩
  have hl := len _ _ _ _ hsp
  have KX : K.In s.heap := e0.mod.kin.keeps fun b o e => (e0.bs b o e).1
  have lim : s.heap.NoLimit := e0.mod.nolimit.keeps fun b o e => (e0.bs b o e).1
  have hkind : ∀ y ∈ ps.zip us, scope.names.lookup y.1 = some .local ∨ (scope.names.lookup y.1 = some .cell ∧ ((cellsFrom (s.heap.objs.size + 1) scope.names []).lookup y.1).isSome = true) := fun ⟨n, v⟩ hy => by
    rcases S.par n (List.of_mem_zip hy).1 with q | q
    · exact .inl q
    · exact .inr ⟨q, PySem.W.cellsFrom_some _ _ _ (.inl q)⟩
  refine codeAny_call_function hr.depth (KX _ _ lk) rfl S.co S.gen rfl (PySem.W.codeRec_of KX hcd) (hb _ _ _ _ ?_)
  refine wpAny_newFunctionEnv_cells S.kind hkind fun env he s1 x => ?_
  subst he
  refine ⟨lim.keeps x.toInCall.keep, codeAny_func ?_⟩
  obtain ⟨t, ht, hq⟩ := hbody A outer s H vs Q E (hr.deeper _) hsp
  have I : Inv (cxOf CX P w K mg base N qual scope f cdv A outer s H E) [] (start N vs) H s1 := inv_start S hr.hd e0 hl r x
  refine wpAny_mono (ht [] s1 (start N vs) H _ I hq) (fun fl s' hs => ?_) fun e s' hs => hs
  have fin : ∀ {σ' : St} {H' : Hp} {v : V} {u : Value}, Inv (cxOf CX P w K mg base N qual scope f cdv A outer s H E) [] σ' H' s' → RelV v u → Q v H' → CE outer P w H s Q u s' :=
    fun {σ' H' v u} J rv q => ⟨v, H', J.os, J.bare, J.base, J.hok, rv, q⟩
  cases fl with
  | ret u =>
    obtain ⟨v, σ', H', J, rv, q⟩ := hs
    exact fin J rv q
  | next =>
    obtain ⟨σ', H', J, q⟩ := hs
    exact fin (v := V.non) (u := Value.none) J rfl q
  | brk =>
    obtain ⟨_, _, _, q⟩ := hs
    exact False.elim q
  | cont =>
    obtain ⟨_, _, _, q⟩ := hs
    exact False.elim q
end L2
namespace L2
open PySem PySem.Spec PyProof.Rows
section
variable {X : Cx} {x : Str} {p pos : Pos} {e : Expr} {es : List Expr} {t : TA} {id T : String} {r : List V → Hp → VK → Prop}
def tCB (r : List V → Hp → VK → Prop) (t : TA) : TE := fun σ H Q => t σ H fun vs H1 => r vs H1 Q
theorem pe_callB (hc : CallR X (.builtin id) r) (hg : Gl X x) (hm : X.mg x = none) (hv : bootBuiltins x = some (.builtin id)) (ha : PA X (e :: es) t) (hn : x ≠ "__name__" := by decide) (hdb : (x == ("__debug__" : Str)) = false := by decide)
    (he : starEach (e :: es) X.env = (false, eval e X.env) :: starEach es X.env := by rfl) (hpl : (backTo pos (starEach es X.env)).any (·.1) = false := by rfl) : PE X (.Call (.Name x p) (e :: es) [] pos) (tCB r t) := by
  intro pins s σ H Q I h
  refine wpAny_Call_Name_kw (ld_blt I hg hm hv ?_ hn hdb)
  exact PyProof.Rows.callWith_builtin1 (thn (ha pos pins s σ H _ I h) fun us s1 ⟨vs, H1, I1, r1, q1⟩ => hc pins s1 σ H1 vs us Q I1 r1 q1) he hpl
theorem pe_callTy (hc : CallR X (.type T) r) (hg : Gl X x) (hm : X.mg x = none) (hv : bootBuiltins x = some (.type T)) (ha : PA X (e :: es) t) (hn : x ≠ "__name__" := by decide) (hdb : (x == ("__debug__" : Str)) = false := by decide)
    (he : starEach (e :: es) X.env = (false, eval e X.env) :: starEach es X.env := by rfl) (hpl : (backTo pos (starEach es X.env)).any (·.1) = false := by rfl) : PE X (.Call (.Name x p) (e :: es) [] pos) (tCB r t) := by
  intro pins s σ H Q I h
  refine wpAny_Call_Name_kw (ld_blt I hg hm hv ?_ hn hdb)
  exact PyProof.Rows.callWith_type1 (thn (ha pos pins s σ H _ I h) fun us s1 ⟨vs, H1, I1, r1, q1⟩ => hc pins s1 σ H1 vs us Q I1 r1 q1) he hpl
end
end L2
namespace HT
open PySem PyProof.Rows
section
open PySem.SeqAt
open PySem.AutoSeq1 (wpAny_loadPart')
open PySem.MeetsSeq PySem.MeetsSeq2 PySem.MeetsSeq3
end
section
variable {prog : Program} {w : World} {A : Around} {E : Value → Shared → Prop} {s : Shared}
def sIx (n d : Nat) : Option Int → Nat
  | none => d
  | some v => if v < 0 then (v + (n : Int)).toNat else min v.toNat n
theorem sIx_nat (n d k : Nat) : sIx n d (some (k : Int)) = min k n := by
  show (if (k : Int) < 0 then ((k : Int) + (n : Int)).toNat else min (k : Int).toNat n) = min k n
  rw [if_neg (by omega), Int.toNat_natCast]
theorem sIx_le (n d : Nat) (hd : d ≤ n) (o : Option Int) : sIx n d o ≤ n := by
  cases o with
  | none => exact hd
  | some v =>
    show (if v < 0 then (v + (n : Int)).toNat else min v.toNat n) ≤ n
    by_cases hv : v < 0
    · rw [if_pos hv]; omega
    · rw [if_neg hv]; exact Nat.min_le_right _ _
theorem clip_eq (v : Int) (n d : Nat) : (if v < 0 then max (v + (n : Int)) 0 else min v (n : Int)) = ((sIx n d (some v) : Nat) : Int) := by
  show (if v < 0 then max (v + (n : Int)) 0 else min v (n : Int)) = (((if v < 0 then (v + (n : Int)).toNat else min v.toNat n) : Nat) : Int)
  by_cases hv : v < 0
  · simp only [if_pos hv]; omega
  · simp only [if_neg hv]; omega
theorem adjust_gen (lo hi : Option Int) (n : Nat) : Builtin.Slice.sliceAdjust lo hi 1 (n : Int) = (((sIx n 0 lo : Nat) : Int), ((sIx n n hi : Nat) : Int)) := by
  have h1 : ¬ ((1 : Int) < 0) := by omega
  unfold Builtin.Slice.sliceAdjust
  simp only [h1, if_false]
  refine Prod.ext ?_ ?_
  · cases lo with
    | none => rfl
    | some v => exact clip_eq v n 0
  · cases hi with
    | none => rfl
    | some v => exact clip_eq v n n
theorem places_gen (i j : Nat) : Builtin.Slice.slicePlaces (i : Int) (j : Int) 1 = j - i := by
  unfold Builtin.Slice.slicePlaces
  have h1 : (1 : Int) > 0 := by omega
  simp only [h1, if_true, Int.ediv_one]
  split <;> omega
theorem slicePart_ {v : Value} {o : Option Int} {Q : Option Int → Shared → Prop} (p : IsPart v o) (h : Q o s) : wpAny (model prog w) A (Builtin.Slice.slicePartIndex v) Q E s := by
  cases p with
  | none => exact slicePart_none h
  | int i t => exact slicePart_int h
theorem sliceApplied_gen {sl : Addr} {vl vu : Value} {lo hi : Option Int} {n : Nat} {Q : Int × Int × Nat → Shared → Prop} (hs : s.heap.IsSliceOf sl vl vu .none) (pl : IsPart vl lo) (pu : IsPart vu hi)
    (h : Q (((sIx n 0 lo : Nat) : Int), 1, sIx n n hi - sIx n 0 lo) s) : wpAny (model prog w) A (Builtin.Slice.sliceApplied (.ref sl) (pure (n : Int))) Q E s := by
  obtain ⟨os, hos, hcs, hds⟩ := id hs
  unfold Builtin.Slice.sliceApplied Builtin.Slice.sliceFields
  refine wpAny_bind (wpAny_bind (wpAny_field hos hds (x := vl) rfl (wpAny_bind (wpAny_field hos hds (x := vu) rfl (wpAny_bind (wpAny_field hos hds (x := .none) rfl (wpAny_pure ?_)))))))
  refine wpAny_bind (slicePart_none ?_)
  show wpAny _ _ (if ((1 : Int) == 0) = true then _ else _) _ _ s
  rw [if_neg (by decide)]
  refine wpAny_bind (slicePart_ pl (wpAny_bind (slicePart_ pu (wpAny_bind (wpAny_pure ?_)))))
  show wpAny _ _ (match Builtin.Slice.sliceAdjust lo hi 1 (n : Int) with | (lo, hi) => pure (lo, (1 : Int), Builtin.Slice.slicePlaces lo hi 1)) _ _ s
  rw [adjust_gen lo hi n]
  show wpAny _ _ (pure (((sIx n 0 lo : Nat) : Int), (1 : Int), Builtin.Slice.slicePlaces ((sIx n 0 lo : Nat) : Int) ((sIx n n hi : Nat) : Int) 1)) _ _ s
  rw [places_gen]
  exact wpAny_pure h
theorem pick_gen (xs : Array Value) (i k : Nat) : ((List.range k).filterMap fun (m : Nat) => xs[((i : Int) + (m : Int) * 1).toNat]?).toArray = ((xs.toList.drop i).take k).toArray := by
  have e : (fun (m : Nat) => xs[((i : Int) + (m : Int) * 1).toNat]?) = fun m => xs[i + m]? := by
    funext m
    have : ((i : Int) + (m : Int) * 1).toNat = i + m := by omega
    rw [this]
  rw [e]
  have := pick_run xs i k
  rw [List.filterMap_map] at this
  have e2 : ((fun x => xs[x]?) ∘ fun x => i + x) = fun m => xs[i + m]? := rfl
  rw [e2] at this
  rw [this]

theorem getItem_tuple_cut {t sl : Addr} {items : Array Value} {vl vu : Value} {lo hi : Option Int} {Q : Value → Shared → Prop} (ht : IsTup s.heap t items) (hs : s.heap.IsSliceOf sl vl vu .none) (pl : IsPart vl lo) (pu : IsPart vu hi)
    (hw : ¬ (sIx items.size 0 lo = 0 ∧ sIx items.size items.size hi = items.size))
    (h : Q (.ref s.heap.objs.size) { s with heap := s.heap.push { cls := .type "tuple", data := .seq ((items.toList.drop (sIx items.size 0 lo)).take (sIx items.size items.size hi - sIx items.size 0 lo)).toArray } })
    (hsz : items.size ≤ sizeLine) : wpAny (model prog w) A (getItem (.ref t) (.ref sl)) Q E s := by
  have htake : sizeOk (.seq ((items.toList.drop (sIx items.size 0 lo)).take (sIx items.size items.size hi - sIx items.size 0 lo)).toArray) := by
    show ((items.toList.drop (sIx items.size 0 lo)).take (sIx items.size items.size hi - sIx items.size 0 lo)).toArray.size ≤ sizeLine
    rw [List.size_toArray, List.length_take, List.length_drop, Array.length_toList]
    omega
  have hj : sIx items.size items.size hi ≤ items.size := sIx_le _ _ (Nat.le_refl _) hi
  obtain ⟨os, hos, hcs, hds⟩ := id hs
  have hTs : s.TypeIs (.ref sl) "slice" := ⟨os, hos, hcs⟩
  unfold getItem
  try with_reducible refine wpAny_holding ?_
  first | refine wpAny_bind (wpAny_pure ?_) | skip
  refine wpAny_bind (wpAny_sequenceKey ht.typeIs (by decide) ?_)
  refine wpAny_bind (wpAny_callSpecial?_slot (name := Str.ofString "__getitem__") ht.typeIs PyProof.Rows.slot_tuple_getitem
    (wpAny_call_entry PyProof.Rows.slot_tuple_getitem ht.typeIs entry_tuple_getitem ?_ (args_tuple_getitem _ _)))
  show wpAny _ _ (Builtin.Tuple.tupleItemsOf (.ref t) >>= _) _ _ s
  refine wpAny_bind (tupleItemsOf_ ht ?_)
  refine wpAny_bind (wpAny_typeOf hTs ?_)
  rw [if_pos (by decide)]
  refine wpAny_bind (sliceApplied_gen hs pl pu ?_)
  have hno : ¬ ((((sIx items.size 0 lo : Nat) : Int) == 0 && (1 : Int) == 1 && (sIx items.size items.size hi - sIx items.size 0 lo) == items.size) = true) := by
    intro q
    rw [Bool.and_eq_true, Bool.and_eq_true] at q
    have q1 : ((sIx items.size 0 lo : Nat) : Int) = 0 := eq_of_beq q.1.1
    have q2 : sIx items.size items.size hi - sIx items.size 0 lo = items.size := eq_of_beq q.2
    exact hw ⟨by omega, by omega⟩
  show wpAny _ _ (if (((sIx items.size 0 lo : Nat) : Int) == 0 && (1 : Int) == 1 && (sIx items.size items.size hi - sIx items.size 0 lo) == items.size) = true then _ else _) _ _ s
  rw [if_neg hno, pick_gen]
  first
    | exact wpAny_bind (m := Builtin.Tuple.tupleExact _) (wpAny_newObj_type (wpAny_pure ⟨_, rfl, wpAny_pure h⟩) htake)
    | exact wpAny_bind (m := Builtin.Tuple.tupleExact _) (wpAny_newObj_type (wpAny_bind (wpAny_pure (wpAny_pure ⟨_, rfl, wpAny_pure h⟩))) htake)
    | exact wpAny_bind (wpAny_bind (m := Builtin.Tuple.tupleExact _) (wpAny_newObj_type (wpAny_pure (wpAny_pure ⟨_, rfl, wpAny_pure h⟩)) htake))
    | exact wpAny_bind (wpAny_bind (m := Builtin.Tuple.tupleExact _) (wpAny_newObj_type (wpAny_pure ⟨_, rfl, wpAny_pure h⟩) htake))
end
end HT
namespace L2
open PySem PySem.Spec PyProof.Rows
abbrev TO := St → Hp → (Option Int → Hp → Prop) → Prop
def PO (X : Cx) (e : Option Expr) (t : TO) : Prop :=
  ∀ (pins : List (Addr × Obj)) (s : Shared) (σ : St) (H : Hp) (Q : Option Int → Hp → Prop), Inv X pins σ H s → t σ H Q →
    wpAny (model X.prog X.w) X.A (evalPart e X.env) (fun u s' => ∃ o H', Inv X pins σ H' s' ∧ IsPart u o ∧ Q o H') X.xe s
def tNoPart : TO := fun _ H Q => Q none H
def tPart (t : TE) : TO := fun σ H Q => t σ H fun x H1 => ∃ i, x = .int i ∧ Q (some i) H1

section
variable {X : Cx} {e : Expr} {te : TE} {lo hi : Option Expr} {tl th : TO} {pos p2 : Pos}
theorem po_none : PO X none tNoPart := by
  intro pins s σ H Q I h
  rw [evalPart_none]
  exact wpAny_pure ⟨none, H, I, .none, h⟩
theorem po_some (h : PE X e te) : PO X (some e) (tPart te) := by
  intro pins s σ H Q I hw
  rw [evalPart_some]
  refine thn (h pins s σ H _ I hw) fun u s1 ⟨x, H1, I1, r1, q1⟩ => ?_
  obtain ⟨i, rfl, q⟩ := q1
  obtain ⟨t, rfl⟩ := r1
  exact ⟨some i, H1, I1, .int i t, q⟩

def SlR (X : Cx) (r : V → Option Int → Option Int → Hp → VK → Prop) : Prop :=
  ∀ (pins : List (Addr × Obj)) (s : Shared) (σ : St) (H : Hp) (x : V) (v vl vu : Value) (lo hi : Option Int) (sl : Addr) (Q : VK), Inv X pins σ H s → RelV x v → s.heap.IsSliceOf sl vl vu .none → IsPart vl lo → IsPart vu hi → r x lo hi H Q →
    ∃ T id, typeLookup (.type T) "__getitem__" = pure (some (.builtin id)) ∧ s.TypeIs v T ∧ wpAny (model X.prog X.w) X.A (getItem v (.ref sl)) (EP X pins σ Q) X.xe s
theorem SlR.or {r r' : V → Option Int → Option Int → Hp → VK → Prop} (h : SlR X r) (h' : SlR X r') : SlR X (fun x lo hi H Q => r x lo hi H Q ∨ r' x lo hi H Q) := by
  intro pins s σ H x v vl vu lo hi sl Q I rx hs pl pu q
  rcases q with q | q
  · exact h pins s σ H x v vl vu lo hi sl Q I rx hs pl pu q
  · exact h' pins s σ H x v vl vu lo hi sl Q I rx hs pl pu q
def tSl (r : V → Option Int → Option Int → Hp → VK → Prop) (te : TE) (tl th : TO) : TE := fun σ H Q => te σ H fun x H1 => tl σ H1 fun l H2 => th σ H2 fun u H3 => r x l u H3 Q
theorem pe_slice {r : V → Option Int → Option Int → Hp → VK → Prop} (hr : SlR X r) (he : PE X e te) (hl : PO X lo tl) (hu : PO X hi th) : PE X (.Subscript e (.Slice lo hi none p2) pos) (tSl r te tl th) := by
  intro pins s σ H Q I h
  refine Subscript_ (thn (he pins s σ H _ I h) fun v s1 ⟨x, H1, I1, r1, q1⟩ => ?_)
  refine wpAny_Slice (thn (hl pins s1 σ H1 _ I1 q1) fun vl s2 ⟨l, H2, I2, pl, q2⟩ => thn (hu pins s2 σ H2 _ I2 q2) fun vu s3 ⟨u, H3, I3, pu, q3⟩ => ?_)
  rw [evalPart_none]
  refine wpAny_pure ?_
  have I4 : Inv X pins σ H3 { s3 with heap := s3.heap.push { cls := .type "slice", data := .fields #[vl, vu, .none] } } := I3.kept (t' := s3.toks) fun b ob q => Heap.get?_push_of_some _ q
  obtain ⟨T, id, hT, ht, hg⟩ := hr pins { s3 with heap := s3.heap.push { cls := .type "slice", data := .fields #[vl, vu, .none] } } σ H3 x v vl vu l u s3.heap.objs.size Q I4 r1 (Heap.IsSliceOf.new ..) pl pu q3
  show wpAny (model X.prog X.w) X.A (subscriptTail e (.Slice lo hi none p2) v (.ref s3.heap.objs.size)) (EP X pins σ Q) X.xe { s3 with heap := s3.heap.push { cls := .type "slice", data := .fields #[vl, vu, .none] } }
  exact tail_any (ops := [.ref s3.heap.objs.size, v]) ht hT hg (by with_unfolding_all rfl)

def cutV (xs : List V) (lo hi : Option Int) : List V := (xs.drop (HT.sIx xs.length 0 lo)).take (HT.sIx xs.length xs.length hi - HT.sIx xs.length 0 lo)
theorem cutV_length (xs : List V) (lo hi : Option Int) : (cutV xs lo hi).length ≤ xs.length := by
  unfold cutV
  rw [List.length_take, List.length_drop]
  omega
def rSlT (K : PySem.W.Frag) : V → Option Int → Option Int → Hp → VK → Prop := fun x lo hi H Q => ∃ a xs, x = .ref a ∧ SqT K H a xs ∧
  ¬ (HT.sIx xs.length 0 lo = 0 ∧ HT.sIx xs.length xs.length hi = xs.length) ∧ ∀ p, H p = none → Q (.ref p) (upd H p (.tup (cutV xs lo hi)))
theorem sl_tup : SlR X (rSlT X.K) := by
  intro pins s σ H x v vl vu lo hi sl Q I rx hs pl pu h
  obtain ⟨a, xs, rfl, hx, hw, q⟩ := h
  cases rx
  obtain ⟨its, r, ht, hz⟩ := I.tuple hx
  have hlen : its.toArray.size = xs.length := by rw [List.size_toArray]; exact r.length.symm
  refine ⟨"tuple", _, PyProof.Rows.slot_tuple_getitem.lookup, ht.typeIs, ?_⟩
  refine HT.getItem_tuple_cut ht hs pl pu (by rw [hlen]; exact hw) ?_ (by rw [hlen]; exact hz)
  rw [hlen]
  refine ⟨.ref s.heap.objs.size, _, I.laid (t' := s.toks) (o := .tup (cutV xs lo hi)) (fun b ob q => Heap.get?_push_of_some _ q) (Nat.le_refl _) ?_, rfl, q _ (I.hok.fresh (Nat.le_refl _))⟩
  exact ⟨Nat.le_trans (cutV_length xs lo hi) hz, _, (r.drop (HT.sIx xs.length 0 lo)).take (HT.sIx xs.length xs.length hi - HT.sIx xs.length 0 lo), IsTup.new _ _⟩

end
end L2
namespace L2
open PySem PySem.Spec PyProof.Rows
def ixN (n : Nat) (i : Int) : Option Nat := if 0 ≤ i then (if i < n then some i.toNat else none) else if -(n : Int) ≤ i then some (i + n).toNat else none
def atI {α : Type} (xs : List α) (i : Int) : Option α := (ixN xs.length i).bind fun j => xs[j]?
theorem ixN_seq {n : Nat} {i : Int} {j : Nat} (h : ixN n i = some j) : seqIndex? i n = some j ∧ j < n ∧ -(n : Int) ≤ i ∧ i < n := by
  unfold ixN at h
  by_cases h0 : 0 ≤ i
  · rw [if_pos h0] at h
    by_cases h1 : i < n
    · rw [if_pos h1] at h
      have e : i.toNat = j := Option.some.inj h
      exact ⟨by rw [seqIndex_of h0 h1, e], by omega, by omega, h1⟩
    · rw [if_neg h1] at h; cases h
  · rw [if_neg h0] at h
    by_cases h1 : -(n : Int) ≤ i
    · rw [if_pos h1] at h
      have e : (i + n).toNat = j := Option.some.inj h
      exact ⟨by rw [seqIndex_neg (by omega) h1, e], by omega, h1, by omega⟩
    · rw [if_neg h1] at h; cases h
theorem atI_get {α : Type} {xs : List α} {i : Int} {v : α} (h : atI xs i = some v) : ∃ j, seqIndex? i xs.length = some j ∧ xs[j]? = some v ∧ j < xs.length ∧ -(xs.length : Int) ≤ i ∧ i < xs.length := by
  unfold atI at h
  cases e : ixN xs.length i with
  | none => rw [e] at h; cases h
  | some j =>
    rw [e] at h
    obtain ⟨h1, h2, h3, h4⟩ := ixN_seq e
    exact ⟨j, h1, h, h2, h3, h4⟩
theorem atI_nat {α : Type} {xs : List α} {j : Nat} {v : α} (h : xs[j]? = some v) : atI xs (j : Int) = some v := by
  have hj : j < xs.length := (List.getElem?_eq_some_iff.mp h).1
  have e : ixN xs.length (j : Int) = some j := by
    unfold ixN
    rw [if_pos (by omega), if_pos (by omega)]; simp
  unfold atI; rw [e]; exact h
def PlainIx (b : Expr) : Prop := ∀ o i, subscripted b false o i = operate [o, i] (getItem o i)
def IxR (X : Cx) (r : R2) : Prop :=
  ∀ (value slice : Expr) (pins : List (Addr × Obj)) (s : Shared) (σ : St) (H : Hp) (x y : V) (v u : Value) (Q : VK), Inv X pins σ H s → RelV x v → RelV y u → r x y H Q →
    subscripted slice false v u = operate [v, u] (getItem v u) → wpAny (model X.prog X.w) X.A (subscriptTail value slice v u) (EP X pins σ Q) X.xe s
def MtR (X : Cx) (id : String) (r : V → List V → Hp → VK → Prop) : Prop :=
  ∀ (pins : List (Addr × Obj)) (s : Shared) (σ : St) (H : Hp) (x : V) (xs : List V) (v : Value) (us : List Value) (Q : VK), Inv X pins σ H s → RelV x v → Vals xs us → r x xs H Q →
    wpAny (model X.prog X.w) X.A (call (.builtin id) (v :: us)) (EP X pins σ Q) X.xe s
section
variable {X : Cx} {a b : Expr} {ta tb : TE} {pos : Pos}
theorem IxR.or {r r' : R2} (h : IxR X r) (h' : IxR X r') : IxR X (fun x y H Q => r x y H Q ∨ r' x y H Q) := by
  intro value slice pins s σ H x y v u Q I rx ry q hs
  rcases q with q | q
  · exact h value slice pins s σ H x y v u Q I rx ry q hs
  · exact h' value slice pins s σ H x y v u Q I rx ry q hs
theorem MtR.or {id : String} {r r' : V → List V → Hp → VK → Prop} (h : MtR X id r) (h' : MtR X id r') : MtR X id (fun x xs H Q => r x xs H Q ∨ r' x xs H Q) := by
  intro pins s σ H x xs v us Q I rx rs q
  rcases q with q | q
  · exact h pins s σ H x xs v us Q I rx rs q
  · exact h' pins s σ H x xs v us Q I rx rs q
theorem pe_ix {r : R2} (hr : IxR X r) (ha : PE X a ta) (hb : PE X b tb) (hs : PlainIx b) : PE X (.Subscript a b pos) (tOp r ta tb) := by
  intro pins s σ H Q I h
  exact Subscript_ (binT ha hb I h fun v u s2 x y H2 I2 rx ry q => hr a b pins s2 σ H2 x y v u Q I2 rx ry q (hs _ _))

def rIxL (K : PySem.W.Frag) : R2 := fun x y H Q => ∃ p xs i v, x = .ref p ∧ y = .int i ∧ SqL K H p xs ∧ atI xs i = some v ∧ Q v H
def rIxT (K : PySem.W.Frag) : R2 := fun x y H Q => ∃ p xs i v, x = .ref p ∧ y = .int i ∧ SqT K H p xs ∧ atI xs i = some v ∧ Q v H
def rIxS : R2 := fun x y H Q => ∃ z i c, x = .str z ∧ y = .int i ∧ z.length ≤ sizeLine ∧ atI z.cps.toList i = some c ∧ Q (.str ⟨#[c]⟩) H
theorem ix_list : IxR X (rIxL X.K) := by
  intro value slice pins s σ H x y v u Q I rx ry h hs
  obtain ⟨p, xs, i, z, rfl, rfl, hq, he, q⟩ := h
  cases rx
  obtain ⟨t, rfl⟩ := ry
  obtain ⟨its, r, pl, hz⟩ := I.list hq
  obtain ⟨j, h1, h2, h3, h4, h5⟩ := atI_get he
  obtain ⟨w, ew, rw'⟩ := r.get h2
  have hl := r.length
  have hn := line63
  have fin : EP X pins σ Q w s := ⟨z, H, I, rw', q⟩
  by_cases h0 : 0 ≤ i
  · have hj : i.toNat = j := by
      rw [seqIndex_of h0 h5] at h1
      exact Option.some.inj h1
    exact item_listR pl.isList h0 (by omega) (by rw [hj]; simpa using ew) fin hs
  · have hj : (i + (its.toArray.size : Int)).toNat = j := by
      rw [seqIndex_neg (by omega) h4] at h1
      rw [List.size_toArray, ← hl]
      exact Option.some.inj h1
    exact subscriptTail_builtinR (x := w) pl.isList.typeIs slot_list_getitem.lookup
      (wpAny_getItem_list_neg (Q := fun r s' => r = w ∧ EP X pins σ Q r s') pl.isList (by omega) (by rw [List.size_toArray] <;> omega) (by omega) (by rw [hj]; simpa using ew) ⟨rfl, fin⟩) hs
theorem ix_tup : IxR X (rIxT X.K) := by
  intro value slice pins s σ H x y v u Q I rx ry h hs
  obtain ⟨p, xs, i, z, rfl, rfl, hq, he, q⟩ := h
  cases rx
  obtain ⟨t, rfl⟩ := ry
  obtain ⟨its, r, pl, hz⟩ := I.tuple hq
  obtain ⟨j, h1, h2, h3, h4, h5⟩ := atI_get he
  obtain ⟨w, ew, rw'⟩ := r.get h2
  have hl := r.length
  have hn := line63
  have fin : EP X pins σ Q w s := ⟨z, H, I, rw', q⟩
  exact subscriptTail_builtinR (x := w) pl.typeIs slot_tuple_getitem.lookup
    (getItem_tuple (j := j) (Q := fun r s' => r = w ∧ EP X pins σ Q r s') pl (by omega) (by omega) (by rw [List.size_toArray, ← hl]; exact h1) (by simpa using ew) ⟨rfl, fin⟩) hs
theorem ix_str : IxR X rIxS := by
  intro value slice pins s σ H x y v u Q I rx ry h hs
  obtain ⟨z, i, c, rfl, rfl, hz, he, q⟩ := h
  obtain ⟨t, rfl⟩ := rx
  obtain ⟨t', rfl⟩ := ry
  obtain ⟨j, h1, h2, h3, h4, h5⟩ := atI_get he
  have hl : z.cps.toList.length = z.length := by simp [Str.length]
  rw [hl] at h1 h4 h5
  have hn := line63
  exact tail_any (typeIs_str s z t) slot_str_getitem.lookup (getItem_str (c := c) (by
    have e1 : decide (i < -(2 ^ 63 : Int)) = false := decide_eq_false (by omega)
    have e2 : decide (i ≥ 2 ^ 63) = false := decide_eq_false (by omega)
    rw [e1, e2, Bool.or_false]) (by rw [h1]; simpa using h2) ⟨.str ⟨#[c]⟩, H, I.tok _, ⟨_, rfl⟩, q⟩) hs
def rIx (K : PySem.W.Frag) : R2 := fun x y H Q => rIxL K x y H Q ∨ rIxT K x y H Q ∨ rIxS x y H Q
theorem ix_seq : IxR X (rIx X.K) := ix_list.or (ix_tup.or ix_str)

theorem Inv.lst {pins : List (Addr × Obj)} {σ : St} {H : Hp} {s : Shared} {p : Addr} {xs : List V} (I : Inv X pins σ H s) (h : H p = some (.lst xs)) :
    ∃ (its : List Value) (n : Nat), Vals xs its ∧ s.heap.get? p = some { cls := .type "list", data := .seq its.toArray n } ∧ xs.length ≤ sizeLine := by
  obtain ⟨z, its, n, r, e⟩ := I.hok p _ h
  exact ⟨its, n, r, e, z⟩
theorem slice_bounds (lo hi : Option Int) (n : Nat) : (sliceBounds lo hi none n).1 = ((HT.sIx n 0 lo : Nat) : Int) ∧ (sliceBounds lo hi none n).2.1 = ((HT.sIx n n hi : Nat) : Int) ∧ (sliceBounds lo hi none n).2.2 = 1 := by
  refine ⟨?_, ?_, rfl⟩
  · cases lo with
    | none => simp [sliceBounds, HT.sIx]
    | some i =>
      simp only [sliceBounds, HT.sIx, Option.getD_none, show (1 : Int) > 0 by decide, if_true]
      by_cases h : i < 0
      · simp only [h, if_true] <;> omega
      · simp only [h, if_false] <;> omega
  · cases hi with
    | none => simp [sliceBounds, HT.sIx]
    | some i =>
      simp only [sliceBounds, HT.sIx, Option.getD_none, show (1 : Int) > 0 by decide, if_true]
      by_cases h : i < 0
      · simp only [h, if_true] <;> omega
      · simp only [h, if_false] <;> omega
theorem slicePick_cut (its : List Value) (lo hi : Option Int) : slicePick its.toArray lo hi none = ((its.drop (HT.sIx its.length 0 lo)).take (HT.sIx its.length its.length hi - HT.sIx its.length 0 lo)).toArray := by
  obtain ⟨h1, h2, h3⟩ := slice_bounds lo hi its.toArray.size
  unfold slicePick
  rw [h1, h2, h3]
  simp only [sliceRange_one, pick_run, List.size_toArray] <;> rfl
def rSlL (K : PySem.W.Frag) : V → Option Int → Option Int → Hp → VK → Prop := fun x lo hi H Q => ∃ a xs, x = .ref a ∧ SqL K H a xs ∧ ∀ p, H p = none → Q (.ref p) (upd H p (.lst (cutV xs lo hi)))
theorem sl_list : SlR X (rSlL X.K) := by
  intro pins s σ H x v vl vu lo hi sl Q I rx hs pl pu h
  obtain ⟨a, xs, rfl, hx, q⟩ := h
  cases rx
  obtain ⟨its, r, ht, hz⟩ := I.list hx
  have hlen := r.length
  refine ⟨"list", _, slot_list_getitem.lookup, ht.isList.typeIs, ?_⟩
  refine wpAny_getItem_list_slice ht.isList hs pl pu .none (by simp) ?_ (by rw [List.size_toArray] <;> omega)
  rw [slicePick_cut, ← hlen]
  refine ⟨.ref s.heap.objs.size, _, I.laid (t' := s.toks) (o := .lst (cutV xs lo hi)) (fun b ob q => Heap.get?_push_of_some _ q) (Nat.le_refl _) ?_, rfl, q _ (I.hok.fresh (Nat.le_refl _))⟩
  exact ⟨Nat.le_trans (cutV_length xs lo hi) hz, _, 0, (r.drop (HT.sIx xs.length 0 lo)).take (HT.sIx xs.length xs.length hi - HT.sIx xs.length 0 lo), Heap.get?_push_size _ rfl⟩

theorem call_len_seq : CallR X (.builtin "len") (fun xs H Q => ∃ p ys, xs = [.ref p] ∧ (SqL X.K H p ys ∨ SqT X.K H p ys) ∧ Q (.int ys.length) H) := by
  intro pins s σ H xs us Q I r h
  obtain ⟨p, ys, rfl, hq, q⟩ := h
  obtain ⟨u, rfl, rx⟩ := vals1 r
  cases rx
  have hn := line63
  rcases hq with hq | hq
  · obtain ⟨its, r', pl, hz⟩ := I.list hq
    have hlen := r'.length
    exact Calls.call_len_list pl.isList (by simp only [List.size_toArray] <;> omega) ⟨.int ys.length, H, I.tok _, ⟨s.toks + 1, by rw [List.size_toArray, hlen]⟩, q⟩
  · obtain ⟨its, r', pl, hz⟩ := I.tuple hq
    have hlen := r'.length
    exact len_tuple pl (by simp only [List.size_toArray] <;> omega) ⟨.int ys.length, H, I.tok _, ⟨s.toks + 1, by rw [List.size_toArray, hlen]⟩, q⟩
theorem CallR.or {f : Value} {r r' : List V → Hp → VK → Prop} (h : CallR X f r) (h' : CallR X f r') : CallR X f (fun xs H Q => r xs H Q ∨ r' xs H Q) := by
  intro pins s σ H xs us Q I rs q
  rcases q with q | q
  · exact h pins s σ H xs us Q I rs q
  · exact h' pins s σ H xs us Q I rs q
theorem call_list_of : CallR X (.type "list") (fun xs H Q => ∃ p ys, xs = [.ref p] ∧ (SqL X.K H p ys ∨ SqT X.K H p ys) ∧ ∀ l, H l = none → Q (.ref l) (upd H l (.lst ys))) := by
  intro pins s σ H xs us Q I r h
  obtain ⟨p, ys, rfl, hq, q⟩ := h
  obtain ⟨u, rfl, rx⟩ := vals1 r
  cases rx
  have fin : ∀ (its : List Value), Vals ys its → ys.length ≤ sizeLine → ∀ (h' : Heap) (c' : Nat), (∀ b o', s.heap.get? b = some o' → h'.get? b = some o') →
      h'.get? s.heap.objs.size = some { cls := .type "list", dict := none, data := .seq its.toArray c', slots := #[] } → EP X pins σ Q (.ref s.heap.objs.size) { s with heap := h' } := fun its r' hz h' c' kp e =>
    ⟨.ref s.heap.objs.size, _, I.laid (t' := s.toks) kp (Nat.le_refl _) (show ObjOk X.prog X.w _ h' _ (.lst ys) from ⟨hz, its, c', r', e⟩), rfl, q _ (I.hok.fresh (Nat.le_refl _))⟩
  rcases hq with hq | hq
  · obtain ⟨its, r', pl, hz⟩ := I.list hq
    have hlen := r'.length
    obtain ⟨o, ho, hc, n, hd⟩ := pl.isList
    exact call_list_seq p (.inl rfl) ho hc hd (fun h' c' kp e => fin its r' hz h' c' kp e) (by simp only [List.size_toArray] <;> omega)
  · obtain ⟨its, r', pl, hz⟩ := I.tuple hq
    have hlen := r'.length
    obtain ⟨o, ho, hc, n, hd⟩ := pl
    exact call_list_seq p (.inr rfl) ho hc hd (fun h' c' kp e => fin its r' hz h' c' kp e) (by simp only [List.size_toArray] <;> omega)
def tyV (K : PySem.W.Frag) (T : String) (x : V) (H : Hp) : Prop := match x with
  | .str _ => T = "str"
  | .int _ => T = "int"
  | .ref p => (T = "list" ∧ ∃ xs, SqL K H p xs) ∨ (T = "tuple" ∧ ∃ o, K.lookup p = some o ∧ o.cls = .type "tuple" ∧ o.dict = none) ∨
      (T = "dict" ∧ ((∃ kvs, H p = some (.dK kvs)) ∨ ∃ kvs, H p = some (.dT kvs))) ∨ (T = "set" ∧ ∃ S n, H p = some (.set S n))
  | _ => False
theorem tyV_is {pins : List (Addr × Obj)} {σ : St} {H : Hp} {s : Shared} {T : String} {x : V} {v : Value} (I : Inv X pins σ H s) (r : RelV x v) (ty : tyV X.K T x H) :
    s.TypeIs v T ∧ ∀ a, v = .ref a → ∃ ob, s.heap.get? a = some ob ∧ ob.dict = none := by
  cases x with
  | str z =>
    obtain ⟨t, rfl⟩ := r
    cases (show T = "str" from ty)
    exact ⟨typeIs_str s z t, fun _ e => nomatch e⟩
  | int i =>
    obtain ⟨t, rfl⟩ := r
    cases (show T = "int" from ty)
    exact ⟨typeIs_int s i t, fun _ e => nomatch e⟩
  | ref p =>
    cases r
    rcases ty with ⟨rfl, xs, hq⟩ | ⟨rfl, o, hk, hc, hd⟩ | ⟨rfl, hk⟩ | ⟨rfl, S, n, hk⟩
    · obtain ⟨its, _, pl, _⟩ := I.list hq
      refine ⟨pl.isList.typeIs, fun a e => ?_⟩
      cases e
      obtain ⟨o, n, e, c, hd, _⟩ := pl
      exact ⟨o, e, hd⟩
    · refine ⟨⟨o, I.kIn p o hk, hc⟩, fun a e => ?_⟩
      cases e
      exact ⟨o, I.kIn _ o hk, hd⟩
    · have z : ∃ o, s.heap.get? p = some o ∧ o.ExactDict := by
        rcases hk with ⟨kvs, hk⟩ | ⟨kvs, hk⟩
        · obtain ⟨_, _, _, _, o, _, _, e, ex, _⟩ := I.hok p _ hk
          exact ⟨o, e, ex⟩
        · obtain ⟨_, _, _, _, o, _, _, e, ex, _⟩ := I.hok p _ hk
          exact ⟨o, e, ex⟩
      obtain ⟨o, e, ex⟩ := z
      refine ⟨⟨o, e, ex.1⟩, fun a e2 => ?_⟩
      cases e2
      exact ⟨o, e, ex.2.1⟩
    · obtain ⟨o, _, _, _, e, ex, _⟩ := I.hok p _ hk
      refine ⟨⟨o, e, ex.1⟩, fun a e2 => ?_⟩
      cases e2
      exact ⟨o, e, ex.2.1⟩
  | _ => exact False.elim ty
def tBM (K : PySem.W.Frag) (T : String) (r : V → List V → Hp → VK → Prop) (to : TE) (t : TA) : TE := fun σ H Q => to σ H fun x H1 => tyV K T x H1 ∧ t σ H1 fun xs H2 => r x xs H2 Q
variable {o e : Expr} {es : List Expr} {to : TE} {t : TA} {name : Str} {apos cpos : Pos} {T id : String} {r : V → List V → Hp → VK → Prop}
theorem pe_bm (pa : PlainAttrs T) (slot : Slot T name id) (hty : typeOf (.builtin id) = pure (.type "method_descriptor")) (hm : MtR X id r) (ho : PE X o to) (ha : PA X (e :: es) t)
    (hbase : attributeBase o name X.env (eval o X.env) = eval o X.env := by rfl)
    (hfew : ((backTo cpos (starEach (e :: es) X.env)).all (fun x => !x.1) && (backToKw cpos (keywordEach [] X.env)).all (fun x => x.1.isSome)
      && decide ((e :: es).length + ([] : List Keyword).length + (if ([] : List Keyword).isEmpty then 0 else 1) < 30)) = true := by rfl)
    (hline : (apos.endLine == cpos.line) = true := by rfl) (hs : starEach (e :: es) X.env = (false, eval e X.env) :: starEach es X.env := by rfl) (hplain : (backTo cpos (starEach es X.env)).any (·.1) = false := by rfl) :
    PE X (.Call (.Attribute o name apos) (e :: es) [] cpos) (tBM X.K T r to t) := by
  intro pins s σ H Q I h
  refine wpAny_Call_method_late hbase hfew hline rfl (thn (ho pins s σ H _ I h) fun v s1 ⟨x, H1, I1, r1, ty, q1⟩ => ?_)
  obtain ⟨h1, h2⟩ := tyV_is I1 r1 ty
  refine ⟨T, id, pa, slot, hty, h1, h2, ?_⟩
  have hA := ha cpos pins s1 σ H1 _ I1 q1
  rw [hs] at hA ⊢
  refine Calls.callWith_builtin (by show (false || (backTo cpos (starEach es X.env)).any (·.1)) = false; rw [hplain] <;> rfl) (Calls.evalArgs_plain ?_)
  exact thn hA fun us s2 ⟨vs, H2, I2, r2, q2⟩ => hm pins s2 σ H2 x vs v us Q I2 r1 r2 q2
end
end L2
namespace L2
open PySem PySem.Spec PyProof.Rows
def MtM (X : Cx) (id : String) (r : V → List V → Hp → VK → Prop) : Prop :=
  ∀ (pins : List (Addr × Obj)) (s : Shared) (σ : St) (H : Hp) (x : V) (xs : List V) (v : Value) (us : List Value) (Q : VK), Inv X pins σ H s → RelV x v → Vals xs us → r x xs H Q →
    wpAny (model X.prog X.w) X.A (call (.builtin id) (v :: us)) (EP X pins σ Q) X.xe s

theorem Vals.one : ∀ {x : V} {us : List Value}, Vals [x] us → ∃ u, us = [u] ∧ RelV x u
  | _, _, h => vals1 h
theorem Vals.two : ∀ {x y : V} {us : List Value}, Vals [x, y] us → ∃ u v, us = [u, v] ∧ RelV x u ∧ RelV y v
  | _, _, _, h => vals2 h
theorem Vals.zero : ∀ {us : List Value}, Vals [] us → us = []
  | _, .nil => rfl
theorem Vals.dropLast {xs : List V} {us : List Value} (h : Vals xs us) : Vals xs.dropLast us.dropLast := by
  induction h with
  | nil => exact .nil
  | cons r t ih =>
    cases t with
    | nil => exact .nil
    | cons q t' => exact .cons r ih
theorem Vals.reverse {xs : List V} {us : List Value} (h : Vals xs us) : Vals xs.reverse us.reverse := by
  induction h with
  | nil => exact .nil
  | cons r t ih => rw [List.reverse_cons, List.reverse_cons]; exact Vals.append ih (.cons r .nil)
theorem Vals.rep {xs : List V} {us : List Value} (h : Vals xs us) : ∀ k : Nat, Vals (List.replicate k xs).flatten (List.replicate k us).flatten
  | 0 => .nil
  | k + 1 => by
    rw [List.replicate_succ, List.replicate_succ, List.flatten_cons, List.flatten_cons]
    exact Vals.append h (Vals.rep h k)
theorem foldl_rep (its : List Value) : ∀ (k : Nat) (acc : List Value),
    List.foldl (fun x1 x2 => x1 ++ x2) acc.toArray (List.replicate k its.toArray) = (acc ++ (List.replicate k its).flatten).toArray
  | 0, acc => by simp
  | k + 1, acc => by
    have e : acc.toArray ++ its.toArray = (acc ++ its).toArray := by simp
    have e2 : (acc ++ its) ++ (List.replicate k its).flatten = acc ++ (List.replicate (k + 1) its).flatten := by
      rw [List.replicate_succ, List.flatten_cons, List.append_assoc]
    rw [← e2, ← foldl_rep its k (acc ++ its), ← e, List.replicate_succ, List.foldl_cons]

section
variable {X : Cx} {pins : List (Addr × Obj)} {σ : St} {H : Hp} {s : Shared} {l b : Addr} {xs ys zs : List V}
theorem Inv.lset {its its' : List Value} {n : Nat} {f : Array Value → Array Value} {t' : Nat} (I : Inv X pins σ H s) (hH : H l = some (.lst xs))
    (e : s.heap.get? l = some { cls := .type "list", data := .seq its.toArray n }) (hf : f its.toArray = its'.toArray) (hv : Vals ys its') (hz : ys.length ≤ sizeLine) :
    Inv X pins σ (upd H l (.lst ys)) { s with heap := s.heap.update l (Obj.mapSeq f), toks := t' } := by
  have q := PySem.IsL.update e f
  rw [hf] at q
  refine I.write (x := l) (e := l) (by rw [hH]; exact trivial) (.inl rfl) (fun b' u hb hu => (Heap.get?_update_other s.heap (Obj.mapSeq f) (Ne.symm hb)).trans hu) ⟨_, q⟩ ?_
  exact ⟨hz, its', _, hv, q⟩
theorem Inv.lnew {its : List Value} {t' : Nat} (I : Inv X pins σ H s) (hv : Vals ys its) (hz : ys.length ≤ sizeLine) :
    Inv X pins σ (upd H s.heap.objs.size (.lst ys)) { s with heap := s.heap.push { cls := .type "list", data := .seq its.toArray }, toks := t' } :=
  I.laid (fun _ _ q => Heap.get?_push_of_some _ q) (Nat.le_refl _) ⟨hz, its, 0, hv, Heap.get?_push_size _ rfl⟩
theorem Inv.fresh (I : Inv X pins σ H s) : H s.heap.objs.size = none := I.hok.fresh (Nat.le_refl _)
theorem Inv.lstM (I : Inv X pins σ H s) (hH : H l = some (.lst xs)) : xs.length ≤ sizeLine ∧ ∃ (its : List Value) (n : Nat), Vals xs its ∧ xs.length = its.length ∧ s.heap.get? l = some { cls := .type "list", data := .seq its.toArray n } := by
  obtain ⟨z, its, n, r, e⟩ := I.hok l _ hH
  exact ⟨z, its, n, r, r.length, e⟩

theorem notLongL {n : Nat} (h : n ≤ sizeLine) : Builtin.List.listTooLong n = false := by
  unfold Builtin.List.listTooLong
  exact decide_eq_false (by omega)
end
section
variable {X : Cx}
def rAppend : V → List V → Hp → VK → Prop := fun x vs H Q => ∃ l xs y, x = .ref l ∧ vs = [y] ∧ H l = some (.lst xs) ∧ xs.length < sizeLine ∧ Q .non (upd H l (.lst (xs ++ [y])))
theorem mt_append : MtM X "list.append" rAppend := by
  intro pins s σ H x vs v us Q I rx rv h
  obtain ⟨l, xs, y, rfl, rfl, hH, hz, q⟩ := h
  cases rx
  obtain ⟨u, rfl, ru⟩ := rv.one
  obtain ⟨z, its, n, r, hl, e⟩ := I.lstM hH
  refine call_meets F.slot_list_append ⟨_, e, rfl⟩ F.entry_list_append (F.args_list_append_2 _ _) (PySem.list_append l its.toArray n u (by rw [List.size_toArray]; omega)) ⟨e, ?_⟩
  refine ⟨.non, _, I.lset (its' := its ++ [u]) hH e (by simp) (r.append (.cons ru .nil)) ?_, rfl, q⟩
  rw [List.length_append, List.length_singleton]
  omega

def rCat : R2 := fun x y H Q => ∃ l b xs zs, x = .ref l ∧ y = .ref b ∧ H l = some (.lst xs) ∧ H b = some (.lst zs) ∧ xs.length + zs.length ≤ sizeLine ∧ ∀ p, H p = none → Q (.ref p) (upd H p (.lst (xs ++ zs)))
theorem op_cat : OpR X (binaryOp .Add) rCat := by
  intro pins s σ H x y v u Q I rx ry h
  obtain ⟨l, b, xs, zs, rfl, rfl, hH, hB, hz, q⟩ := h
  cases rx
  cases ry
  obtain ⟨z, its, n, r, hl, e⟩ := I.lstM hH
  obtain ⟨z2, its2, n2, r2, hl2, e2⟩ := I.lstM hB
  refine PySem.P.add_list e e2 ?_ (by rw [List.size_toArray, List.size_toArray]; omega)
  have ea : its.toArray ++ its2.toArray = (its ++ its2).toArray := by simp
  rw [ea]
  exact ⟨.ref _, _, I.lnew (t' := s.toks) (r.append r2) (by rw [List.length_append]; omega), rfl, q _ I.fresh⟩
def rRep : R2 := fun x y H Q => ∃ l k xs, x = .ref l ∧ y = .int k ∧ H l = some (.lst xs) ∧ -(2 ^ 63) ≤ k ∧ k < 2 ^ 63 ∧ xs.length * k.toNat ≤ sizeLine ∧
  ∀ p, H p = none → Q (.ref p) (upd H p (.lst (List.replicate k.toNat xs).flatten))
theorem len_rep {α : Type} (xs : List α) (k : Nat) : (List.replicate k xs).flatten.length = k * xs.length := by
  induction k with
  | zero => simp
  | succ k ih => rw [List.replicate_succ, List.flatten_cons, List.length_append, ih, Nat.succ_mul, Nat.add_comm]
theorem op_rep : OpR X (binaryOp .Mult) rRep := by
  intro pins s σ H x y v u Q I rx ry h
  obtain ⟨l, k, xs, rfl, rfl, hH, h1, h2, hz, q⟩ := h
  cases rx
  obtain ⟨t, rfl⟩ := ry
  obtain ⟨z, its, n, r, hl, e⟩ := I.lstM hH
  have hlen : its.toArray.size * k.toNat ≤ sizeLine := by rw [List.size_toArray, ← hl]; exact hz
  have hcap : ¬ its.toArray.size * k.toNat > (2 ^ 63 - 1) / 8 := by
    have : (sizeLine : Nat) ≤ (2 ^ 63 - 1) / 8 := by decide
    omega
  have hfit : ¬ (!Builtin.List.listFitsIndex k) = true := by
    rw [fitsIndex_both h1 h2]
    exact Bool.false_ne_true
  have hlong : ¬ Builtin.List.listTooLong (its.toArray.size * k.toNat) = true := by
    rw [notLongL hlen]
    exact Bool.false_ne_true
  have hnew : List.foldl (fun x1 x2 => x1 ++ x2) #[] (List.replicate (if its.toArray.isEmpty = true then 0 else k.toNat) its.toArray) = (List.replicate k.toNat its).flatten.toArray := by
    have f0 : ∀ m : Nat, List.foldl (fun x1 x2 => x1 ++ x2) #[] (List.replicate m its.toArray) = (List.replicate m its).flatten.toArray := fun m => by
      have := foldl_rep its m []
      rw [List.nil_append] at this
      exact this
    rw [f0]
    cases its with
    | nil => simp
    | cons a r' => rw [if_neg (by simp)]
  refine wpAny_binaryOp_repeat_ref (T := "list") (U := "int") (by decide) ⟨_, e, rfl⟩ (fun s' => typeIs_int s' k t) noFill_list_mul F.fills_int_mul F.slot_int_rmul repeat_list F.slot_int_index.lookup
    (call_meets F.slot_int_rmul (typeIs_int s k t) F.entry_int_rmul (F.args_int_rmul_2 _ _) (int___rmul___int_list k t l its.toArray n)
      ⟨e, rfl, ⟨_, e, rfl⟩, call_meets F.slot_list_mul ⟨_, e, rfl⟩ F.entry_list_mul (F.args_list_mul_2 _ _) (AutoListH.list___mul___list_int_3 l its.toArray n k t hfit hcap hlong) ⟨e, ?_⟩⟩)
  rw [hnew]
  exact ⟨.ref _, _, I.lnew (t' := s.toks) (r.rep k.toNat) (by rw [len_rep, Nat.mul_comm]; exact hz), rfl, q _ I.fresh⟩

end
section
variable {prog : Program} {w : World} {A : Around} {E : Value → Shared → Prop} {s : Shared}
end
section
variable {X : Cx}
end
end L2
namespace L2
open PySem PySem.Spec PyProof.Rows
section
variable {κ : Type} [DecidableEq κ]
def valV (kvs : List (κ × V)) (k : κ) : Option V := (kvs.find? fun kv => decide (kv.1 = k)).map (·.2)
def putK (kvs : List (κ × V)) (k : κ) (v : V) : List (κ × V) :=
  if (kvs.any fun kv => decide (kv.1 = k)) = true then kvs.map (fun kv => if kv.1 = k then (kv.1, v) else kv) else kvs ++ [(k, v)]
def dropK (kvs : List (κ × V)) (k : κ) : List (κ × V) := kvs.filter fun kv => decide (kv.1 ≠ k)

theorem valV_nil {k : κ} : valV ([] : List (κ × V)) k = none := rfl
theorem valV_pos {p : κ × V} {r : List (κ × V)} {k : κ} (e : p.1 = k) : valV (p :: r) k = some p.2 := by simp [valV, List.find?_cons, e]
theorem valV_neg {p : κ × V} {r : List (κ × V)} {k : κ} (e : ¬ p.1 = k) : valV (p :: r) k = valV r k := by simp [valV, List.find?_cons, e]
theorem valV_any (k : κ) : ∀ kvs : List (κ × V), (kvs.any fun kv => decide (kv.1 = k)) = (valV kvs k).isSome
  | [] => rfl
  | p :: r => by
    rw [List.any_cons]
    by_cases e : p.1 = k
    · simp only [valV_pos e, decide_eq_true e, Bool.true_or, Option.isSome_some]
    · rw [valV_neg e, decide_eq_false e, Bool.false_or]; exact valV_any k r
theorem RelO.isSome_eq {o : Option V} {u : Option Value} (r : RelO o u) : o.isSome = u.isSome := by
  cases o with
  | none => cases u with
    | none => rfl
    | some _ => exact (show False from r).elim
  | some _ => cases u with
    | none => exact (show False from r).elim
    | some _ => rfl
theorem RelO.getD {o : Option V} {u : Option Value} {d : V} {d' : Value} (r : RelO o u) (rd : RelV d d') : RelV (o.getD d) (u.getD d') := by
  cases o with
  | none => cases u with
    | none => exact rd
    | some _ => exact (show False from r).elim
  | some _ => cases u with
    | none => exact (show False from r).elim
    | some _ => exact r

theorem KV.val {kvs : List (κ × V)} {vs : List (κ × Value)} (r : KV kvs vs) (k : κ) : RelO (valV kvs k) (valueAt vs k) := by
  unfold KV at r
  induction r with
  | nil => exact True.intro
  | @cons p q ps qs h t ih =>
    obtain ⟨h1, h2⟩ := h
    by_cases e : p.1 = k
    · have e' : q.1 = k := h1.symm.trans e
      have b : valueAt (q :: qs) k = some q.2 := by simp [valueAt, List.find?_cons, e']
      rw [valV_pos e, b]; exact h2
    · have e' : ¬ q.1 = k := fun z => e (h1.trans z)
      have b : valueAt (q :: qs) k = valueAt qs k := by simp [valueAt, List.find?_cons, e']
      rw [valV_neg e, b]; exact ih
theorem KV.any {kvs : List (κ × V)} {vs : List (κ × Value)} (r : KV kvs vs) (k : κ) : (kvs.any fun kv => decide (kv.1 = k)) = vs.any fun kv => decide (kv.1 = k) := by
  unfold KV at r
  induction r with
  | nil => rfl
  | cons h t ih => rw [List.any_cons, List.any_cons, ih, h.1]
theorem KV.repl {kvs : List (κ × V)} {vs : List (κ × Value)} (r : KV kvs vs) (k : κ) {y : V} {u : Value} (ry : RelV y u) :
    KV (kvs.map fun kv => if kv.1 = k then (kv.1, y) else kv) (vs.map fun kv => if kv.1 = k then (kv.1, u) else kv) := by
  unfold KV at r ⊢
  induction r with
  | nil => exact .nil
  | @cons p q ps qs h t ih =>
    rw [List.map_cons, List.map_cons]
    refine .cons ?_ ih
    obtain ⟨h1, h2⟩ := h
    by_cases e : p.1 = k
    · rw [if_pos e, if_pos (h1.symm.trans e)]; exact ⟨h1, ry⟩
    · rw [if_neg e, if_neg (fun z => e (h1.trans z))]; exact ⟨h1, h2⟩
theorem KV.put {kvs : List (κ × V)} {vs : List (κ × Value)} (r : KV kvs vs) (k : κ) {y : V} {u : Value} (ry : RelV y u) : KV (putK kvs k y) (stored vs k u) := by
  unfold putK stored
  rw [r.any k]
  by_cases e : (vs.any fun kv => decide (kv.1 = k)) = true
  · rw [if_pos e, if_pos e]; exact r.repl k ry
  · rw [if_neg e, if_neg e]; exact Paired.snoc r ⟨rfl, ry⟩
theorem KV.drop {kvs : List (κ × V)} {vs : List (κ × Value)} (r : KV kvs vs) (k : κ) : KV (dropK kvs k) (without vs k) := by
  unfold KV at r ⊢
  unfold dropK without
  induction r with
  | nil => exact .nil
  | @cons p q ps qs h t ih =>
    obtain ⟨h1, h2⟩ := h
    rw [List.filter_cons, List.filter_cons]
    by_cases e : p.1 = k
    · have a : ¬ decide (p.1 ≠ k) = true := by simp [e]
      have b : ¬ decide (q.1 ≠ k) = true := by simp [h1.symm.trans e]
      rw [if_neg a, if_neg b]; exact ih
    · have e' : ¬ q.1 = k := fun z => e (h1.trans z)
      have a : decide (p.1 ≠ k) = true := by simp [e]
      have b : decide (q.1 ≠ k) = true := by simp [e']
      rw [if_pos a, if_pos b]; exact .cons ⟨h1, h2⟩ ih
theorem KV.keys {kvs : List (κ × V)} {vs : List (κ × Value)} (r : KV kvs vs) : kvs.map (·.1) = vs.map (·.1) := by
  unfold KV at r
  induction r with
  | nil => rfl
  | cons h t ih => rw [List.map_cons, List.map_cons, ih, h.1]
theorem KV.length {kvs : List (κ × V)} {vs : List (κ × Value)} (r : KV kvs vs) : kvs.length = vs.length := Paired.length r
end
theorem kV_is {P : Program} {w : World} {k : Key} {u : Value} (r : RelV (kV k) u) : (mixKind P w).is k u = true := by
  cases k with
  | inl i => obtain ⟨t, e⟩ := (show ∃ t, u = Value.int i t from r); subst e; exact mixKind_int P w i t
  | inr x => obtain ⟨t, e⟩ := (show ∃ t, u = Value.str x t from r); subst e; exact mixKind_str P w x t
theorem items_are {P : Program} {w : World} : ∀ {ks : List Key} {us : List Value}, Vals (ks.map kV) us → ItemsAre (mixKind P w) ks us
  | [], _, r => by rw [List.map_nil] at r; cases r; exact .nil
  | k :: ks, _, r => by
    rw [List.map_cons] at r
    cases r with
    | cons h t => exact .cons (kV_is h) (items_are t)

abbrev KT (H : Hp) : List (List Key × V) → List (List Key × Addr × Value) → Prop := Paired fun p q => p.1 = q.1 ∧ H q.2.1 = some (.tup (p.1.map kV)) ∧ RelV p.2 q.2.2
theorem KT.val {H : Hp} {kvs : List (List Key × V)} {xs : List (List Key × Addr × Value)} (r : KT H kvs xs) (k : List Key) : RelO (valV kvs k) ((atKey xs k).map (·.2)) := by
  induction r with
  | nil => exact True.intro
  | @cons p q ps qs h t ih =>
    obtain ⟨h1, _, h2⟩ := h
    by_cases e : p.1 = k
    · have e' : q.1 = k := h1.symm.trans e
      have b : atKey (q :: qs) k = some q.2 := by simp [atKey, List.find?_cons, e']
      rw [valV_pos e, b]; exact h2
    · have e' : ¬ q.1 = k := fun z => e (h1.trans z)
      have b : atKey (q :: qs) k = atKey qs k := by simp [atKey, List.find?_cons, e']
      rw [valV_neg e, b]; exact ih
theorem KT.repl {H : Hp} {kvs : List (List Key × V)} {xs : List (List Key × Addr × Value)} (r : KT H kvs xs) (k : List Key) {y : V} {u : Value} (ry : RelV y u) :
    KT H (kvs.map fun kv => if kv.1 = k then (kv.1, y) else kv) (xs.map (putAt k u)) := by
  induction r with
  | nil => exact .nil
  | @cons p q ps qs h t ih =>
    rw [List.map_cons, List.map_cons]
    refine .cons ?_ ih
    obtain ⟨h1, h2, h3⟩ := h
    unfold putAt
    by_cases e : p.1 = k
    · rw [if_pos e, if_pos (h1.symm.trans e)]; exact ⟨h1, h2, ry⟩
    · rw [if_neg e, if_neg (fun z => e (h1.trans z))]; exact ⟨h1, h2, h3⟩
theorem KT.put {H : Hp} {kvs : List (List Key × V)} {xs : List (List Key × Addr × Value)} (r : KT H kvs xs) (k : List Key) {b : Addr} {y : V} {u : Value} (hb : H b = some (.tup (k.map kV))) (ry : RelV y u) :
    KT H (putK kvs k y) (storedH xs k b u) := by
  have e : (kvs.any fun kv => decide (kv.1 = k)) = (atKey xs k).isSome := by
    rw [valV_any, (r.val k).isSome_eq, Option.isSome_map]
  unfold putK storedH
  rw [e]
  by_cases q : (atKey xs k).isSome = true
  · rw [if_pos q, if_pos q]; exact r.repl k ry
  · rw [if_neg q, if_neg q]; exact Paired.snoc r ⟨rfl, hb, ry⟩
theorem KT.keeps {H H' : Hp} {kvs : List (List Key × V)} {xs : List (List Key × Addr × Value)} (r : KT H kvs xs) (ht : ∀ b ys, H b = some (.tup ys) → H' b = some (.tup ys)) : KT H' kvs xs :=
  Paired.mapP r fun _ _ z => ⟨z.1, ht _ _ z.2.1, z.2.2⟩

section
variable {P : Program} {w : World} {H : Hp} {h : Heap} {a : Addr}
theorem rd_of {u : HO} (ok : HOk P w H h) (e : Rd H a u) : ObjOk P w H h a u := e.ok ok
theorem dk_rd {kvs : List (Key × V)} (ok : HOk P w H h) (e : Rd H a (.dK kvs)) : kvs.length ≤ sizeLine ∧ (a == sysModules) = false ∧ ∃ vs, KV kvs vs ∧ h.DictOf (mixKind P w) a vs :=
  show ObjOk P w H h a (.dK kvs) from rd_of ok e
theorem key_of {ks : List Key} (ok : HOk P w H h) (e : H a = some (.tup (ks.map kV))) : (tupleKind (mixKind P w)).is h ks a := by
  obtain ⟨_, its, r, o, h1, h2, n, h3⟩ := (show ObjOk P w H h a (.tup (ks.map kV)) from ok a _ e)
  exact ⟨o, its.toArray, n, h1, h2, h3, by simpa using items_are r⟩
theorem dt_rd {kvs : List (List Key × V)} (ok : HOk P w H h) (e : Rd H a (.dT kvs)) : kvs.length ≤ sizeLine ∧ (a == sysModules) = false ∧
    ∃ xs, KT H kvs xs ∧ h.DictOfH (tupleKind (mixKind P w)) a xs := by
  obtain ⟨z, y, xs, r, o, es, ep, h1, h2, h3, h4, h5⟩ := (show ObjOk P w H h a (.dT kvs) from rd_of ok e)
  refine ⟨z, y, xs, r, o, es, ep, h1, h2, h3, h4, fun x hx => ?_, h5⟩
  have all : ∀ {l : List (List Key × V)} {m : List (List Key × Addr × Value)}, KT H l m → ∀ x ∈ m, (tupleKind (mixKind P w)).is h x.1 x.2.1 := by
    intro l m q
    induction q with
    | nil => intro x hx; exact nomatch hx
    | @cons p q ps qs hq t ih =>
      intro x hx
      rcases List.mem_cons.mp hx with e | hx
      · subst e
        exact key_of ok (by rw [← hq.1]; exact hq.2.1)
      · exact ih x hx
  exact all r x hx
end
def DGet (H : Hp) (a : Addr) (y : V) (r : Option V) : Prop :=
  (∃ kvs k, Rd H a (.dK kvs) ∧ y = kV k ∧ r = valV kvs k) ∨ ∃ kvs k b, Rd H a (.dT kvs) ∧ y = .ref b ∧ H b = some (.tup (k.map kV)) ∧ r = valV kvs k
def DPut (H : Hp) (a : Addr) (y v : V) (H' : Hp) : Prop :=
  (∃ kvs k, H a = some (.dK kvs) ∧ y = kV k ∧ kvs.length < sizeLine ∧ H' = upd H a (.dK (putK kvs k v))) ∨
  ∃ kvs k b, H a = some (.dT kvs) ∧ y = .ref b ∧ H b = some (.tup (k.map kV)) ∧ kvs.length < sizeLine ∧ H' = upd H a (.dT (putK kvs k v))
theorem DGet.k {H : Hp} {a : Addr} {kvs : List (Key × V)} {k : Key} (e : H a = some (.dK kvs)) : DGet H a (kV k) (valV kvs k) := .inl ⟨kvs, k, .inl e, rfl, rfl⟩
theorem DGet.t {H : Hp} {a b : Addr} {kvs : List (List Key × V)} {k : List Key} (e : H a = some (.dT kvs)) (eb : H b = some (.tup (k.map kV))) : DGet H a (.ref b) (valV kvs k) := .inr ⟨kvs, k, b, .inl e, rfl, eb, rfl⟩
theorem DPut.k {H : Hp} {a : Addr} {kvs : List (Key × V)} {k : Key} {v : V} (e : H a = some (.dK kvs)) (hl : kvs.length < sizeLine) : DPut H a (kV k) v (upd H a (.dK (putK kvs k v))) := .inl ⟨kvs, k, e, rfl, hl, rfl⟩
theorem DPut.t {H : Hp} {a b : Addr} {kvs : List (List Key × V)} {k : List Key} {v : V} (e : H a = some (.dT kvs)) (eb : H b = some (.tup (k.map kV))) (hl : kvs.length < sizeLine) :
    DPut H a (.ref b) v (upd H a (.dT (putK kvs k v))) := .inr ⟨kvs, k, b, e, rfl, eb, hl, rfl⟩


section
variable {X : Cx} {pins : List (Addr × Obj)} {σ : St} {H : Hp} {s : Shared} {a : Addr} {y v : V} {u r : Value} {o : Option V} {A : Around} {E : Value → Shared → Prop}
theorem d_getItem {Q : Value → Shared → Prop} (hu : A.units + 1 < cLine) (I : Inv X pins σ H s) (g : DGet H a y (some v)) (ry : RelV y u) (h : ∀ w' s', Inv X pins σ H s' → RelV v w' → Q w' s') :
    wpAny (model X.prog X.w) A (getItem (.ref a) u) Q E s := by
  rcases g with ⟨kvs, k, e, ey, l⟩ | ⟨kvs, k, b, e, ey, eb, l⟩
  · subst ey
    obtain ⟨z, hd, vs, rel, dd⟩ := dk_rd I.hok e
    obtain ⟨w', hw, rw'⟩ := RelO.some_of (v := v) (o := valueAt vs k) (by rw [l]; exact rel.val k)
    exact wpAny_getItem_of (kV_is ry) dd.mapOf hw (h w' _ (I.tok _) rw')
  · subst ey
    cases (show u = Value.ref b from ry)
    obtain ⟨z, hd, xs, rel, dd⟩ := dt_rd I.hok e
    obtain ⟨w', hw, rw'⟩ := RelO.some_of (v := v) (o := (atKey xs k).map (·.2)) (by rw [l]; exact rel.val k)
    obtain ⟨p, hp, hp2⟩ := Option.map_eq_some_iff.mp hw
    refine wpAny_getItem_heap (tupleKind_room_in1 hu) (key_of I.hok eb) dd hp ?_
    rw [hp2]
    exact h w' _ (I.tok _) rw'
theorem d_notIn {Q : Value → Shared → Prop} (hu : A.units + 1 < cLine) (I : Inv X pins σ H s) (g : DGet H a y o) (ry : RelV y u) (h : ∀ s', Inv X pins σ H s' → Q (.bool (!o.isSome)) s') :
    wpAny (model X.prog X.w) A (compareOp .NotIn u (.ref a)) Q E s := by
  rcases g with ⟨kvs, k, e, ey, l⟩ | ⟨kvs, k, b, e, ey, eb, l⟩
  · subst ey
    obtain ⟨z, hd, vs, rel, dd⟩ := dk_rd I.hok e
    refine wpAny_notIn_of (kV_is ry) hd dd.mapOf ?_
    rw [← (rel.val k).isSome_eq, ← l]
    exact h _ (I.tok _)
  · subst ey
    cases (show u = Value.ref b from ry)
    obtain ⟨z, hd, xs, rel, dd⟩ := dt_rd I.hok e
    refine wpAny_notIn_heap (tupleKind_room_in1 hu) (key_of I.hok eb) hd dd ?_
    have q := (rel.val k).isSome_eq
    rw [Option.isSome_map] at q
    rw [← q, ← l]
    exact h _ (I.tok _)
end
section
variable {X : Cx} {pins : List (Addr × Obj)} {σ : St} {H : Hp} {s : Shared} {a : Addr} {kvs : List (Key × V)} {k : Key} {u : Value} {A : Around} {E : Value → Shared → Prop}
end
theorem dict_typeIs {X : Cx} {pins : List (Addr × Obj)} {σ : St} {H : Hp} {s : Shared} {a : Addr} {y : V} {o : Option V} (I : Inv X pins σ H s) (g : DGet H a y o) : s.TypeIs (.ref a) "dict" := by
  rcases g with ⟨kvs, k, e, _, _⟩ | ⟨kvs, k, b, e, _, _, _⟩
  · obtain ⟨_, _, vs, _, dd⟩ := dk_rd I.hok e
    exact dd.typeIs
  · obtain ⟨_, _, xs, _, dd⟩ := dt_rd I.hok e
    exact dd.typeIs
section
variable {X : Cx} {o i e value : Expr} {pos pos' tpos : Pos} {td ty tv : TE}
end
section
variable {X : Cx} {pos : Pos}
end
section
variable {X : Cx} {pins : List (Addr × Obj)} {σ : St} {H : Hp} {s : Shared} {a : Addr} {y d : V} {u r : Value} {o : Option V} {A : Around} {E : Value → Shared → Prop}
end
section
variable {X : Cx} {o e f : Expr} {apos cpos : Pos} {td ty tx : TE}
end
section
variable {X : Cx} {pins : List (Addr × Obj)} {σ : St} {H : Hp} {s : Shared} {a : Addr} {kvs : List (Key × V)} {A : Around} {E : Value → Shared → Prop}
end
section
variable {X : Cx} {pins : List (Addr × Obj)} {σ : St} {H : Hp} {s : Shared} {a : Addr} {y : V} {u : Value} {A : Around} {E : Value → Shared → Prop}
end
end L2
namespace Att
open PySem PySem.W PySem.Calls PyProof.Rows
theorem ints_of_wellAll {P : Params} {h : Heap} : ∀ (ns : List Int) (vs : List Value), WellAll P h vs (ns.map WData.int) → IntsAre vs ns := by
  intro ns
  induction ns with
  | nil =>
    intro vs w
    rw [List.map_nil] at w
    cases w
    exact .nil
  | cons n ns ih =>
    intro vs w
    rw [List.map_cons] at w
    cases w with
    | cons a b =>
      cases a
      exact .cons _ _ (ih _ b)

theorem script_of {l : OpenLaw} {n : Nat} (hn : l.most = some n) {P : Params} {h : Heap} {args : List WData} {vals : List Value}
    (hpre : l.row.toRowW.claim.pre args = true) (hwl : WellAll P h vals args) :
    ∃ a vs ns, vals = [Value.ref a] ∧ args = [WData.list (ns.map WData.int)] ∧ h.get? a = some { cls := .type "list", data := .seq vs.toArray } ∧ IntsAre vs ns ∧ ns.length ≤ n := by
  have hsh : WShape.hasAll [] args [.list .int] = true := (pre_splitW hpre).1
  have hc : l.pre.holds [] { args := args } = true := (pre_splitW hpre).2
  obtain ⟨d, r, rfl, h1, h2⟩ := hasAllW_cons hsh
  obtain rfl := hasAllW_nil h2
  obtain ⟨xs, rfl, h3⟩ := hasW_list h1
  obtain ⟨ns, rfl⟩ := items_int h3
  have hlen : ns.length ≤ n := by
    unfold OpenLaw.pre at hc
    have h4 : (WTm.not (.lt (.lit (.int (n : Int))) (.len (.arg 0)))).holds [] { args := [.list (ns.map .int)] } = true := by
      have h4 := (holds_andW hc).1
      rw [hn] at h4
      exact h4
    have h5 := condW_of h4 (w_not (w_lt w_lit (w_len_list (w_arg rfl))))
    rw [List.length_map] at h5
    refine Nat.le_of_not_lt fun q => ?_
    have q' : (n : Int) < ((ns.length : Nat) : Int) := by omega
    first
      | (rw [decide_eq_true q'] at h5; exact absurd h5 (by decide))
      | (simp at h5; omega)
  cases hwl with
  | cons w1 w2 =>
    cases w2
    cases w1 with
    | list ho hall => exact ⟨_, _, ns, rfl, rfl, ho, ints_of_wellAll ns _ hall, hlen⟩

theorem post_true (l : OpenLaw) (args : List WData) : l.row.toRowW.claim.post args (.bool true) args = true :=
  postW_of (r := l.row.toRowW) (X := (true == true))
    (show WShape.has [] (.bool true) .bool = true by first | rfl | decide | simp [WShape.has, WShape.arms, WShape.armsAll])
    (show (WTm.eq .res (.lit (.bool true))).value [] { args := args, res := some (.bool true), after := args } = some (.bool (true == true)) from w_eq_bool (w_res rfl) w_lit) rfl

theorem attach_call {l : OpenLaw} {n : Nat} {q : Program} {loose : List Str} {XP : (Str → Option Value) → Heap → Prop} {YP : World → Heap → Prop} {d : DefRec}
    (hn : l.most = some n) (hdf : d.params.defaults = [])
    (call : ∀ (w : World) (s₀ s₁ : Shared) (mg mb : Str → Option Value) (fa : Addr) (o : Obj) (pm cd doc : Value) (a : Addr) (vs : List Value) (ns : List Int),
      Ground q loose [] XP w s₀ mg mb s₁.heap → YP w s₁.heap →
      s₁.heap.get? fa = some o → o.data = .func (docDef d.name d.params d.body d.scope pm cd doc) → s₁.heap.CodeRec cd d.name → mg d.name = some (.ref fa) →
      s₁.heap.get? a = some { cls := .type "list", data := .seq vs.toArray } → IntsAre vs ns → ns.length ≤ n → s₁.gens = #[] →
      codeAny (model l.prog w) callerA (.call (.ref fa) ⟨[.ref a], []⟩) (fun r s' => r = .ok (.ret (.bool true)) ∧ OldK s₁.heap s'.heap ∧ s'.os = s₁.os ∧ AllBare s'.gens) s₁) :
    WalkO q loose XP YP l.row.toRowW d [] (fun f vs => PySem.call f vs) := by
  intro w s₀ s₁ mg mb G Y fa o pm cd doc dV kV ho hd hcd hD hmg hg args vals as hpre hlay hrd hwl hlo
  obtain rfl : dV = .none := Dflts.none hD hdf
  obtain rfl : kV = .none := Dflts.noKw hD
  obtain ⟨a, vs, ns, rfl, rfl, hobj, hints, hlen⟩ := script_of hn hpre hwl
  refine enter_call (codeAny_mono (call w s₀ s₁ mg mb fa o pm cd doc a vs ns G Y ho (fd_plain hd) hcd hmg hobj hints hlen hg) fun r s' hq => ?_)
  obtain ⟨rfl, h2, h3, h4⟩ := hq
  exact ⟨.inl ⟨.bool true, .bool true, [], rfl, fun _ => rfl, .bool true, post_true l _, fun _ => ⟨List.Pairwise.nil, fun _ hm => (nomatch hm)⟩⟩, h2, h3, h4⟩

section
variable {prog : Program} {w : World} {A : Around} {E : Value → Shared → Prop} {s : Shared} {K : Frag}
end
end Att
namespace L2
open PySem PySem.Spec PyProof.Rows
theorem vals_ints : ∀ {vs : List Value} {ns : List Int}, IntsAre vs ns → Vals (ns.map V.int) vs
  | _, _, .nil => .nil
  | _, _, .cons n t h => .cons ⟨t, rfl⟩ (vals_ints h)

def Only (H : Hp) : Prop := ∀ b, H b = none ∨ ∃ o xs, H b = some (.frz o (.lst xs))

theorem law_call {P : Program} {w : World} {K : PySem.W.Frag} {mg mb : Str → Option Value} {CX : CXT} {k : Nat} {fa a : Addr} {fd : FuncData} {x : Str} {sp : Sp} {s₁ : Shared} {vs : List Value} {ns : List Int}
    (KX : K.In s₁.heap) (hns : s₁.heap.Ns mainGlobals mg) (hb : s₁.heap.Ns builtinsNs mb) (hbb : ∀ x : Str, x ≠ "__name__" → mb x = bootBuiltins x) (hlim : s₁.heap.NoLimit) (hg : s₁.gens = #[])
    (ha : s₁.heap.get? a = some { cls := .type "list", data := .seq vs.toArray }) (hi : IntsAre vs ns) (hl : ns.length ≤ sizeLine) (hr : Room k callerA)
    (F : ∀ base : Heap, K.In base → base.Ns mainGlobals mg → FnOk P w K mg base CX k fa fd [x] sp) (hbind : ∀ (s : Shared) (u : Value), BindsTo s fd ⟨[u], []⟩ [(x, u)])
    (hsp : ∀ H : Hp, Only H → SqL K H a (ns.map V.int) → sp [.ref a] H (fun v _ => v = .bl true) fun _ _ _ => False)
    (hCX : ∀ H e s', CX [] H s₁ (fun _ _ _ => False) e s' → False) :
    codeAny (model P w) callerA (.call (.ref fa) ⟨[.ref a], []⟩) (fun r s' => r = .ok (.ret (.bool true)) ∧ OldK s₁.heap s'.heap ∧ s'.os = s₁.os ∧ AllBare s'.gens) s₁ := by
  have rv := vals_ints hi
  have lenV := hi.length
  -- from an abstract heap in which nothing but the script may be tracked
  have core : ∀ H : Hp, Only H → SqL K H a (ns.map V.int) → HOk P w H s₁.heap → (∀ b, H b ≠ none → b = a) → (H a ≠ none → K.lookup a = none) →
      codeAny (model P w) callerA (.call (.ref fa) ⟨[.ref a], []⟩) (fun r s' => r = .ok (.ret (.bool true)) ∧ OldK s₁.heap s'.heap ∧ s'.os = s₁.os ∧ AllBare s'.gens) s₁ := by
    intro H hO hS hok hA hK
    have base_of : ∀ {b : Addr} {o : Obj}, s₁.heap.get? b = some o → H b = none → (hidT s₁.heap H).get? b = some o := fun e n => hidT_get e n
    have noA : ∀ {b : Addr} {o : Obj} {es : Array DictEntry} {ep : Nat}, s₁.heap.get? b = some o → o.data = .dict es ep → H b = none := fun {b o es ep} e d => by
      cases q : H b with
      | none => rfl
      | some u =>
        have e' : b = a := hA b (by rw [q]; simp)
        subst e'
        rw [ha] at e; cases e
        have d' : Data.seq vs.toArray _ = Data.dict es ep := d
        cases d'
    have nsK : ∀ {b : Addr} {m : Str → Option Value}, s₁.heap.Ns b m → (hidT s₁.heap H).Ns b m := fun {b m} ⟨o, es, ep, e, d, r⟩ => ⟨o, es, ep, base_of e (noA e d), d, r⟩
    have hKb : K.In (hidT s₁.heap H) := fun b o e => base_of (KX b o e) (by
      cases q : H b with
      | none => rfl
      | some u =>
        have e' : b = a := hA b (by rw [q]; simp)
        subst e'
        rw [hK (by rw [q]; simp)] at e; cases e)
    have hM : Mod K mg (hidT s₁.heap H) := ⟨hKb, nsK hns, ⟨mb, nsK hb, hbb⟩, let ⟨mc, h1, h2⟩ := hlim; ⟨mc, nsK h1, h2⟩⟩
    have e0 : Env0 P w K mg (hidT s₁.heap H) callerA [] s₁ H := ⟨rfl, hM, fun b o e => of_hidT e, Nat.le_of_eq (hidT_size _ _), trivial, fun b hb => absurd (show b ∈ ([] : List Addr) from hb) (by simp), hok, .of_eq hg⟩
    refine codeAny_mono ((F _ hKb (nsK hns)).run callerA [] s₁ H ⟨[.ref a], []⟩ [.ref a] [.ref a] _ _ hr e0 (hbind s₁ (.ref a)) (.cons rfl .nil) (hsp H hO hS)) fun r s' h => ?_
    cases r with
    | error e => exact (hCX H e s' h).elim
    | ok fl =>
      cases fl with
      | next => exact False.elim h
      | brk => exact False.elim h
      | cont => exact False.elim h
      | ret u =>
        obtain ⟨v, H', os, bare, un, hok', r', q⟩ := h
        have q' : v = .bl true := q
        subst q'
        obtain rfl : u = Value.bool true := r'
        refine ⟨rfl, OldK.of_keep fun b o e => ?_, os, bare⟩
        cases q : H b with
        | none => exact un.keep b o e q (by intro z; exact absurd (show b ∈ ([] : List Addr) from z) (by simp)) (by simp)
        | some u =>
          rcases hO b with z | ⟨ob, xs, z⟩
          · rw [q] at z; cases z
          · have z2 := un.frzs b ob _ z
            obtain ⟨e1, _⟩ := hok b _ z
            obtain ⟨e2, _⟩ := hok' b _ z2
            rw [e] at e1; cases e1
            exact e2
  cases hk : K.lookup a with
  | some o =>
    -- the script is one of the module's own objects
    have e := KX a o hk
    rw [ha] at e
    cases e
    refine core (fun _ => none) (fun _ => .inl rfl) (.inr ⟨_, vs.toArray, _, hk, rfl, rfl, rfl, by rw [List.size_toArray, lenV]; exact hl, by simpa using rv⟩) (fun b u z => by have z' : (none : Option HO) = some u := z; cases z') (fun b z => absurd rfl z) fun z => absurd rfl z
  | none =>
    refine core (fun b => if b = a then some (.frz { cls := .type "list", data := .seq vs.toArray } (.lst (ns.map V.int))) else none) (fun b => ?_) (.inl (.inr ⟨{ cls := .type "list", data := .seq vs.toArray }, if_pos rfl⟩)) (fun b u z => ?_) (fun b z => ?_) fun _ => hk
    · by_cases hb : b = a
      · exact .inr ⟨_, _, if_pos hb⟩
      · exact .inl (if_neg hb)
    · by_cases hb : b = a
      · have z' := (if_pos hb).symm.trans z
        cases z'
        subst hb
        exact ⟨ha, by rw [List.length_map]; exact hl, vs, _, rv, ha⟩
      · have z' := (if_neg hb).symm.trans z
        cases z'
    · by_cases hb : b = a
      · exact hb
      · exact absurd (if_neg hb) z
end L2
namespace L2
open PySem PySem.Spec PyProof.Rows
theorem walk_of {l : PySem.W.OpenLaw} {n k : Nat} {q : Program} {loose : List Str} {XP : (Str → Option Value) → Heap → Prop} {YP : World → Heap → Prop} {d : DefRec} {K : Params → PySem.W.Frag} {CX : World → CXT} {sp : World → Sp} {x : Str}
    (hn : l.most = some n) (hn2 : n ≤ sizeLine) (hdf : d.params.defaults = []) (hr : Room k callerA)
    (hY : ∀ (w : World) (h : Heap), YP w h → (K w.params).In h)
    (F : ∀ (w : World) (mg : Str → Option Value) (fa : Addr) (h : Heap), (K w.params).In h → h.Ns mainGlobals mg → mg d.name = some (.ref fa) →
      ∃ fd : FuncData, (∀ (s : Shared) (u : Value), BindsTo s fd ⟨[u], []⟩ [(x, u)]) ∧
        ∀ base : Heap, (K w.params).In base → base.Ns mainGlobals mg → FnOk l.prog w (K w.params) mg base (CX w) k fa fd [x] (sp w))
    (hsp : ∀ (w : World) (H : Hp) (a : Addr) (ns : List Int), ns.length ≤ n → Only H → SqL (K w.params) H a (ns.map V.int) → sp w [.ref a] H (fun v _ => v = .bl true) fun _ _ _ => False)
    (hCX : ∀ (w : World) (H : Hp) (s : Shared) (e : Value) (s' : Shared), CX w [] H s (fun _ _ _ => False) e s' → False) :
    PySem.W.WalkO q loose XP YP l.row.toRowW d [] (fun f vs => PySem.call f vs) := by
  refine Att.attach_call hn hdf fun w s₀ s₁ mg mb fa o pm cd doc a vs ns G Y ho hd hcd hmg hobj hints hlen hg => ?_
  have KX := hY w _ Y
  obtain ⟨fd, hb, hF⟩ := F w mg fa _ KX G.T.g hmg
  exact law_call KX G.T.g G.T.b G.T.builtins G.T.nolimit hg hobj hints (Nat.le_trans hlen hn2) hr hF hb (fun H hO hS => hsp w H a ns hlen hO hS) fun H e s' => hCX w H s₁ e s'
theorem walk_ofK {l : PySem.W.OpenLaw} {n k : Nat} {q : Program} {loose : List Str} {XP : (Str → Option Value) → Heap → Prop} {YP : World → Heap → Prop} {d : DefRec} {K : Params → PySem.W.Frag} {CX : CXT} {sp : PySem.W.Frag → Sp} {x : Str}
    (hn : l.most = some n) (hn2 : n ≤ sizeLine) (hdf : d.params.defaults = []) (hr : Room k callerA)
    (hY : ∀ (w : World) (h : Heap), YP w h → (K w.params).In h)
    (F : ∀ (w : World) (mg : Str → Option Value) (fa : Addr) (h : Heap), (K w.params).In h → h.Ns mainGlobals mg → mg d.name = some (.ref fa) →
      ∃ fd : FuncData, (∀ (s : Shared) (u : Value), BindsTo s fd ⟨[u], []⟩ [(x, u)]) ∧
        ∀ base : Heap, (K w.params).In base → base.Ns mainGlobals mg → FnOk l.prog w (K w.params) mg base CX k fa fd [x] (sp (K w.params)))
    (hsp : ∀ (K : PySem.W.Frag) (H : Hp) (a : Addr) (ns : List Int), ns.length ≤ n → Only H → SqL K H a (ns.map V.int) → sp K [.ref a] H (fun v _ => v = .bl true) fun _ _ _ => False)
    (hCX : ∀ (H : Hp) (s : Shared) (e : Value) (s' : Shared), CX [] H s (fun _ _ _ => False) e s' → False) :
    PySem.W.WalkO q loose XP YP l.row.toRowW d [] (fun f vs => PySem.call f vs) :=
  walk_of (K := K) (CX := fun _ => CX) (sp := fun w => sp (K w.params)) hn hn2 hdf hr hY F (fun w H a ns h1 h2 h3 => hsp (K w.params) H a ns h1 h2 h3) fun _ H s e s' => hCX H s e s'
end L2
namespace L2
open PySem PySem.Spec PyProof.Rows
def defArgs (s : Stmt) : Arguments := match s with
  | .FunctionDef _ a _ _ _ _ _ _ _ _ => a
  | _ => { posonlyargs := [], args := [], vararg := none, kwonlyargs := [], kw_defaults := [], kwarg := none, defaults := [] }
def defBody (s : Stmt) : List Stmt := match s with
  | .FunctionDef _ _ b _ _ _ _ _ _ _ => b
  | _ => []
def defScope (s : Stmt) : Scope := match s with
  | .FunctionDef _ _ _ _ _ _ sc _ _ _ => sc
  | _ => { kind := .function, names := [], isGenerator := false, isCoroutine := false }

abbrev CX0 : CXT := fun _ _ _ _ _ _ => False
abbrev E0 : XK := fun _ _ _ => False
theorem pass0 {X : Cx} : Passes CX0 X E0 := fun _ _ _ _ _ _ _ h => h.elim

structure Fun (K : PySem.W.Frag) (x qual : Str) (st : Stmt) (f : Addr) (fd : FuncData) : Prop where
  ex : ∃ (oc : Value) (od : Option Addr) (kV doc pm : Value) (an : Option Addr) (cdv ct : Value) (osl : Array (Option Value)),
    fd = PySem.W.fnOf x qual (defArgs st) (defBody st) (defScope st) .none kV doc pm an cdv ct ∧ K.lookup f = some ⟨oc, od, .func fd, osl⟩ ∧ PySem.W.codeIn K cdv qual = true
  kp : PySem.W.keepIn K (.ref f) = true
section
variable {P : Program} {w : World} {K : PySem.W.Frag} {mg : Str → Option Value} {base : Heap}
theorem Fun.ok {x qual : Str} {st : Stmt} {f : Addr} {fd : FuncData} {N ps : List Str} {k : Nat} {sp : Sp} (F : Fun K x qual st f fd) (S : FnScope N ps (defScope st)) (len : ∀ vs H Q E, sp vs H Q E → vs.length = ps.length)
    (hbody : ∀ (cdv : Value) (A : Around) (outer : List Env) (s : Shared) (H : Hp) (vs : List V) (Q : VK) (E : XK), Room k (A.deeper (envOfC qual (defScope st) s.heap.objs.size f cdv)) → sp vs H Q E →
      ∃ t, PSs (cxOf CX0 P w K mg base N qual (defScope st) f cdv A outer s H E).nox (defBody st) t ∧ t { nx := fun _ H' => Q .non H', rt := Q } (start N vs) H) : FnOk P w K mg base CX0 (k + 1) f fd ps sp := by
  obtain ⟨oc, od, kV, doc, pm, an, cdv, ct, osl, rfl, lk, hcd⟩ := F.ex
  refine fn_of lk hcd S len fun A outer s H vs Q E hr hsp => ?_
  obtain ⟨t, h, q⟩ := hbody cdv A outer s H vs Q E hr hsp
  exact ⟨t, h.nox, q⟩
theorem Fun.binds {x qual : Str} {st : Stmt} {f : Addr} {fd : FuncData} {ps : List Str} (F : Fun K x qual st f fd)
    (h : ∀ (kV doc pm : Value) (an : Option Addr) (cdv ct : Value) (us : List Value), us.length = ps.length → bindArgs (PySem.W.fnOf x qual (defArgs st) (defBody st) (defScope st) .none kV doc pm an cdv ct) ⟨us, []⟩ = pure (ps.zip us)) : Binds K fd ps [] := by
  obtain ⟨oc, od, kV, doc, pm, an, cdv, ct, osl, rfl, lk, hcd⟩ := F.ex
  exact .all (h kV doc pm an cdv ct)
theorem fun_mk {x qual : Str} {st : Stmt} {f : Addr} {oc : Value} {od an : Option Addr} {osl : Array (Option Value)} {kV doc pm cdv ct : Value} (l : K.lookup f = some ⟨oc, od, .func (PySem.W.fnOf x qual (defArgs st) (defBody st) (defScope st) .none kV doc pm an cdv ct), osl⟩)
    (c : PySem.W.codeIn K cdv qual = true) (k : PySem.W.keepIn K (.ref f) = true) : Fun K x qual st f (PySem.W.fnOf x qual (defArgs st) (defBody st) (defScope st) .none kV doc pm an cdv ct) := ⟨⟨oc, od, kV, doc, pm, an, cdv, ct, osl, rfl, l, c⟩, k⟩
end
section
variable {X : Cx}
theorem pv (i : Nat) {x : Str} {pos : Pos} (hN : X.N[i]? = some x := by rfl) (hv : Vis X.env.scope x := by first | exact Or.inl rfl | exact Or.inr (Or.inl rfl) | exact Or.inr (Or.inr rfl)) (hd : (x == ("__debug__" : Str)) = false := by decide)
    (hcd : (x == ("__classdict__" : Str)) = false := by decide) : PE X (.Name x pos) (tVar i) := pe_var hN hv hd hcd
end
def Same (H H' : Hp) : Prop := ∀ b o, H b = some o → H' b = some o
theorem Same.refl (H : Hp) : Same H H := fun _ _ h => h
theorem Same.trans {H H1 H2 : Hp} (a : Same H H1) (b : Same H1 H2) : Same H H2 := fun c o h => b c o (a c o h)
theorem Same.free {H H' : Hp} (e : Same H H') {l : Addr} (h : H' l = Option.none) : H l = Option.none := by
  cases q : H l with
  | none => rfl
  | some o =>
    rw [e l o q] at h
    cases h
theorem Same.seq {K : PySem.W.Frag} {H H' : Hp} {a : Addr} {xs : List V} (e : Same H H') (h : SqL K H a xs) : SqL K H' a xs := by
  rcases h with (h | ⟨o, h⟩) | h
  · exact .inl (.inl (e _ _ h))
  · exact .inl (.inr ⟨o, e _ _ h⟩)
  · exact .inr h

section
variable {κ : Type} [DecidableEq κ]
end
end L2
set_option Elab.async false
set_option linter.all false
set_option maxRecDepth 100000
namespace L2
open PySem PySem.Spec PyProof.Rows
section
variable {X : Cx}
theorem PE.mono {e : Expr} {t t' : TE} (h : PE X e t) (i : ∀ σ H Q, t' σ H Q → t σ H Q) : PE X e t' := fun pins s σ H Q I q => h pins s σ H Q I (i σ H Q q)
theorem PT.mono {e : Expr} {t t' : TT} (h : PT X e t) (i : ∀ σ H Q, t' σ H Q → t σ H Q) : PT X e t' := fun pins s σ H Q I q => h pins s σ H Q I (i σ H Q q)
theorem PW.mono {e : Expr} {t t' : TT} (h : PW X e t) (i : ∀ σ H Q, t' σ H Q → t σ H Q) : PW X e t' := fun wh pins s σ H Q I q => h wh pins s σ H Q I (i σ H Q q)
theorem PA.mono {e : List Expr} {t t' : TA} (h : PA X e t) (i : ∀ σ H Q, t' σ H Q → t σ H Q) : PA X e t' := fun pos pins s σ H Q I q => h pos pins s σ H Q I (i σ H Q q)
theorem PS.mono {e : Stmt} {t t' : TS} (h : PS X e t) (i : ∀ D σ H, t' D σ H → t D σ H) : PS X e t' := fun pins s σ H D I q => h pins s σ H D I (i D σ H q)
theorem PSs.mono {e : List Stmt} {t t' : TS} (h : PSs X e t) (i : ∀ D σ H, t' D σ H → t D σ H) : PSs X e t' := fun pins s σ H D I q => h pins s σ H D I (i D σ H q)
theorem PG.mono {e : Expr} {t t' : TG} (h : PG X e t) (i : ∀ v σ H Q, t' v σ H Q → t v σ H Q) : PG X e t' := fun pins s σ H v u Q I r q => h pins s σ H v u Q I r (i v σ H Q q)
theorem PGs.mono {e : List Expr} {t t' : TGs} (h : PGs X e t) (i : ∀ v σ H Q, t' v σ H Q → t v σ H Q) : PGs X e t' := fun pins s σ H v u Q I r q => h pins s σ H v u Q I r (i v σ H Q q)
theorem PI.mono {g e : Expr} {t t' : TI} (h : PI X g e t) (i : ∀ σ H Q, t' σ H Q → t σ H Q) : PI X g e t' := fun pins s σ H Q I q => h pins s σ H Q I (i σ H Q q)
theorem PO.mono {e : Option Expr} {t t' : TO} (h : PO X e t) (i : ∀ σ H Q, t' σ H Q → t σ H Q) : PO X e t' := fun pins s σ H Q I q => h pins s σ H Q I (i σ H Q q)
end
theorem sizeLine_ge : 1000000 ≤ sizeLine := by decide
end L2
set_option linter.all false
set_option maxRecDepth 100000
namespace L3
open PySem L2
inductive D where
  | non | bl (b : Bool) | int (i : Int) | str (x : Str)
  | tup (xs : List D) | lst (xs : List D)
  | dK (ks : List Key) (xs : List D) | dT (ks : List (List Key)) (xs : List D)
  | obj (c : Str) (ns : List Str) (xs : List D)
  | scr (xs : List D)
  | ty (n : String)

mutual
/-- the value v, in the heap F, is the tree d -/
def Rep (K : PySem.W.Frag) (F : Hp) : D → V → Prop
  | .non, v => v = .non
  | .bl b, v => v = .bl b
  | .int i, v => v = .int i
  | .str x, v => v = .str x
  | .tup xs, v => ∃ a vs, v = .ref a ∧ F a = some (.tup vs) ∧ Reps K F xs vs
  | .lst xs, v => ∃ a vs, v = .ref a ∧ F a = some (.lst vs) ∧ Reps K F xs vs
  | .dK ks xs, v => ∃ a vs, v = .ref a ∧ F a = some (.dK (ks.zip vs)) ∧ ks.length = vs.length ∧ Reps K F xs vs
  | .dT ks xs, v => ∃ a vs, v = .ref a ∧ F a = some (.dT (ks.zip vs)) ∧ ks.length = vs.length ∧ Reps K F xs vs
  | .obj c ns xs, v => ∃ a C dx vs, v = .ref a ∧ PySem.W.nsIn K PySem.mainGlobals c = some (some (.ref C)) ∧ F a = some (.ins C dx (ns.zip vs)) ∧ ns.length = vs.length ∧ Reps K F xs vs
  | .scr xs, v => ∃ a vs, v = .ref a ∧ SqL K F a vs ∧ Reps K F xs vs
  | .ty n, v => v = .ty n
def Reps (K : PySem.W.Frag) (F : Hp) : List D → List V → Prop
  | [], vs => vs = []
  | d :: ds, vs => ∃ v r, vs = v :: r ∧ Rep K F d v ∧ Reps K F ds r
end
section
variable {K : PySem.W.Frag} {F F' H H' H0 F0 : Hp}
mutual
theorem Rep.mono (e : Same F F') : ∀ {d : D} {v : V}, Rep K F d v → Rep K F' d v
  | .non, _, h => h
  | .bl _, _, h => h
  | .int _, _, h => h
  | .str _, _, h => h
  | .ty _, _, h => by rw [Rep] at h ⊢; exact h
  | .tup _, _, h => by
    rw [Rep] at h ⊢
    obtain ⟨a, vs, h1, h2, h3⟩ := h
    exact ⟨a, vs, h1, e _ _ h2, Reps.mono e h3⟩
  | .lst _, _, h => by
    rw [Rep] at h ⊢
    obtain ⟨a, vs, h1, h2, h3⟩ := h
    exact ⟨a, vs, h1, e _ _ h2, Reps.mono e h3⟩
  | .dK _ _, _, h => by
    rw [Rep] at h ⊢
    obtain ⟨a, vs, h1, h2, h3, h4⟩ := h
    exact ⟨a, vs, h1, e _ _ h2, h3, Reps.mono e h4⟩
  | .dT _ _, _, h => by
    rw [Rep] at h ⊢
    obtain ⟨a, vs, h1, h2, h3, h4⟩ := h
    exact ⟨a, vs, h1, e _ _ h2, h3, Reps.mono e h4⟩
  | .obj _ _ _, _, h => by
    rw [Rep] at h ⊢
    obtain ⟨a, C, dx, vs, h1, hc, h2, h3, h4⟩ := h
    exact ⟨a, C, dx, vs, h1, hc, e _ _ h2, h3, Reps.mono e h4⟩
  | .scr _, _, h => by
    rw [Rep] at h ⊢
    obtain ⟨a, vs, h1, h2, h3⟩ := h
    exact ⟨a, vs, h1, Same.seq e h2, Reps.mono e h3⟩
theorem Reps.mono (e : Same F F') : ∀ {ds : List D} {vs : List V}, Reps K F ds vs → Reps K F' ds vs
  | [], _, h => by rw [Reps] at h ⊢; exact h
  | _ :: _, _, h => by
    rw [Reps] at h ⊢
    obtain ⟨v, r, h1, h2, h3⟩ := h
    exact ⟨v, r, h1, Rep.mono e h2, Reps.mono e h3⟩
end
theorem Reps.nil : Reps K F [] [] := by rw [Reps]
theorem Reps.cons {d : D} {ds : List D} {v : V} {vs : List V} (h : Rep K F d v) (t : Reps K F ds vs) : Reps K F (d :: ds) (v :: vs) := by rw [Reps]; exact ⟨v, vs, rfl, h, t⟩
theorem Reps.uncons {d : D} {ds : List D} {vs : List V} (h : Reps K F (d :: ds) vs) : ∃ v r, vs = v :: r ∧ Rep K F d v ∧ Reps K F ds r := by rw [Reps] at h; exact h
theorem Reps.unnil {vs : List V} (h : Reps K F [] vs) : vs = [] := by rw [Reps] at h; exact h
theorem Reps.length : ∀ {ds : List D} {vs : List V}, Reps K F ds vs → ds.length = vs.length
  | [], _, h => by rw [h.unnil]; rfl
  | _ :: _, _, h => by obtain ⟨v, r, rfl, _, t⟩ := h.uncons; simp [Reps.length t]
theorem Reps.get : ∀ {ds : List D} {vs : List V} {i : Nat} {d : D}, Reps K F ds vs → ds[i]? = some d → ∃ v, vs[i]? = some v ∧ Rep K F d v
  | [], _, _, _, _, e => by simp at e
  | _ :: _, _, 0, _, h, e => by
    obtain ⟨v, r, rfl, h1, _⟩ := h.uncons
    simp at e; subst e; exact ⟨v, rfl, h1⟩
  | _ :: _, _, i + 1, _, h, e => by
    obtain ⟨v, r, rfl, _, t⟩ := h.uncons
    obtain ⟨u, e1, h1⟩ := Reps.get (i := i) t (by simpa using e)
    exact ⟨u, by simpa using e1, h1⟩
theorem Reps.app : ∀ {ds es : List D} {vs us : List V}, Reps K F ds vs → Reps K F es us → Reps K F (ds ++ es) (vs ++ us)
  | [], _, _, _, h, g => by rw [h.unnil]; exact g
  | _ :: _, _, _, _, h, g => by obtain ⟨v, r, rfl, h1, t⟩ := h.uncons; exact .cons h1 (Reps.app t g)
theorem Reps.set {d : D} {v : V} (r : Rep K F d v) : ∀ {ds : List D} {vs : List V} (i : Nat), Reps K F ds vs → Reps K F (ds.set i d) (vs.set i v)
  | [], _, _, h => by rw [h.unnil]; exact .nil
  | _ :: _, _, 0, h => by obtain ⟨u, t, rfl, _, h2⟩ := h.uncons; exact .cons r h2
  | _ :: _, _, i + 1, h => by obtain ⟨u, t, rfl, h1, h2⟩ := h.uncons; exact .cons h1 (Reps.set r i h2)
theorem Reps.drop : ∀ {ds : List D} {vs : List V} (n : Nat), Reps K F ds vs → Reps K F (ds.drop n) (vs.drop n)
  | _, _, 0, h => h
  | [], _, _ + 1, h => by rw [h.unnil]; exact .nil
  | _ :: _, _, n + 1, h => by obtain ⟨u, t, rfl, _, h2⟩ := h.uncons; exact Reps.drop n h2
theorem Reps.take : ∀ {ds : List D} {vs : List V} (n : Nat), Reps K F ds vs → Reps K F (ds.take n) (vs.take n)
  | _, _, 0, _ => .nil
  | [], _, _ + 1, h => by rw [h.unnil]; exact .nil
  | _ :: _, _, n + 1, h => by obtain ⟨u, t, rfl, h1, h2⟩ := h.uncons; exact .cons h1 (Reps.take n h2)
theorem Reps.rep {ds : List D} {vs : List V} (h : Reps K F ds vs) : ∀ k : Nat, Reps K F (List.replicate k ds).flatten (List.replicate k vs).flatten
  | 0 => .nil
  | k + 1 => by rw [List.replicate_succ, List.replicate_succ, List.flatten_cons, List.flatten_cons]; exact .app h (Reps.rep h k)

def Cell (K : PySem.W.Frag) (F H : Hp) (a : Addr) : D → Prop
  | .lst xs => ∃ vs, H a = some (.lst vs) ∧ Reps K F xs vs
  | .dK ks xs => ∃ vs, H a = some (.dK (ks.zip vs)) ∧ ks.length = vs.length ∧ Reps K F xs vs
  | .dT ks xs => ∃ vs, H a = some (.dT (ks.zip vs)) ∧ ks.length = vs.length ∧ Reps K F xs vs
  | .obj c ns xs => ∃ C dx vs, PySem.W.nsIn K PySem.mainGlobals c = some (some (.ref C)) ∧ H a = some (.ins C dx (ns.zip vs)) ∧ ns.length = vs.length ∧ Reps K F xs vs
  | _ => False
theorem Cell.some {a : Addr} {d : D} (h : Cell K F H a d) : ∃ o, H a = some o := by
  cases d <;> first | exact h.elim | (obtain ⟨vs, h, _⟩ := h; exact ⟨_, h⟩) | (obtain ⟨C, dx, vs, _, h, _⟩ := h; exact ⟨_, h⟩)
theorem Cell.mono {a : Addr} {d : D} (h : Cell K F H a d) (e : Same F F') (k : ∀ o, H a = .some o → H' a = .some o) : Cell K F' H' a d := by
  cases d with
  | lst xs => obtain ⟨vs, h1, h2⟩ := h; exact ⟨vs, k _ h1, h2.mono e⟩
  | dK ks xs => obtain ⟨vs, h1, h2, h3⟩ := h; exact ⟨vs, k _ h1, h2, h3.mono e⟩
  | dT ks xs => obtain ⟨vs, h1, h2, h3⟩ := h; exact ⟨vs, k _ h1, h2, h3.mono e⟩
  | obj c ns xs => obtain ⟨C, dx, vs, hc, h1, h2, h3⟩ := h; exact ⟨C, dx, vs, hc, k _ h1, h2, h3.mono e⟩
  | _ => exact h.elim
theorem Cell.rep {a : Addr} {d : D} (h : Cell K F H a d) (e : Same F F') (k : ∀ o, H a = .some o → F' a = .some o) : Rep K F' d (.ref a) := by
  cases d with
  | lst xs => obtain ⟨vs, h1, h2⟩ := h; rw [Rep]; exact ⟨a, vs, rfl, k _ h1, h2.mono e⟩
  | dK ks xs => obtain ⟨vs, h1, h2, h3⟩ := h; rw [Rep]; exact ⟨a, vs, rfl, k _ h1, h2, h3.mono e⟩
  | dT ks xs => obtain ⟨vs, h1, h2, h3⟩ := h; rw [Rep]; exact ⟨a, vs, rfl, k _ h1, h2, h3.mono e⟩
  | obj c ns xs => obtain ⟨C, dx, vs, hc, h1, h2, h3⟩ := h; rw [Rep]; exact ⟨a, C, dx, vs, rfl, hc, k _ h1, h2, h3.mono e⟩
  | _ => exact h.elim

def RdV (K : PySem.W.Frag) (F H : Hp) (d : D) (v : V) : Prop := Rep K F d v ∨ ∃ a, v = .ref a ∧ Cell K F H a d

structure Step (F H F' H' : Hp) : Prop where
  up : Same F F'
  sub : Same F' H'
  keep : Same H H'
  new : ∀ a o, F' a = some o → F a = some o ∨ H a = none
theorem Step.refl (h : Same F H) : Step F H F H := ⟨.refl _, h, .refl _, fun _ _ e => .inl e⟩
theorem Step.trans {F1 H1 F2 H2 : Hp} (a : Step F H F1 H1) (b : Step F1 H1 F2 H2) : Step F H F2 H2 :=
  ⟨a.up.trans b.up, b.sub, a.keep.trans b.keep, fun c o e => by
    rcases b.new c o e with e1 | e1
    · exact a.new c o e1
    · exact .inr (a.keep.free e1)⟩
theorem Step.unfz {a : Addr} {o : HO} (s : Step F H F' H') (h : H a = some o) (n : F a = none) : F' a = none := by
  cases q : F' a with
  | none => rfl
  | some u =>
    rcases s.new a u q with e | e
    · rw [n] at e; cases e
    · rw [h] at e; cases e

inductive Kd where | fz | ow | bo
def Val (K : PySem.W.Frag) (F' H H' : Hp) : Kd → D → V → Prop
  | .fz, d, v => Rep K F' d v
  | .ow, d, v => ∃ a, v = .ref a ∧ H a = none ∧ F' a = none ∧ Cell K F' H' a d
  | .bo, d, v => ∃ a, v = .ref a ∧ F' a = none ∧ Cell K F' H' a d
theorem Val.rd {k : Kd} {d : D} {v : V} (h : Val K F' H H' k d v) : RdV K F' H' d v := by
  cases k with
  | fz => exact .inl h
  | ow => obtain ⟨a, h1, _, _, h2⟩ := h; exact .inr ⟨a, h1, h2⟩
  | bo => obtain ⟨a, h1, _, h2⟩ := h; exact .inr ⟨a, h1, h2⟩
theorem Val.later {k : Kd} {d : D} {v : V} {F1 H1 : Hp} (h : Val K F' H H' k d v) (s : Step F' H' F1 H1) : Val K F1 H H1 k d v := by
  cases k with
  | fz => exact Rep.mono s.up h
  | ow => obtain ⟨a, h1, h2, h3, h4⟩ := h; obtain ⟨o, ho⟩ := h4.some; exact ⟨a, h1, h2, s.unfz ho h3, h4.mono s.up fun o e => s.keep _ _ e⟩
  | bo => obtain ⟨a, h1, h3, h4⟩ := h; obtain ⟨o, ho⟩ := h4.some; exact ⟨a, h1, s.unfz ho h3, h4.mono s.up fun o e => s.keep _ _ e⟩
theorem Val.early {k : Kd} {d : D} {v : V} {H1 : Hp} (h : Val K F' H1 H' k d v) (e : Same H H1) : Val K F' H H' k d v := by
  cases k with
  | fz => exact h
  | ow => obtain ⟨a, h1, h2, h3, h4⟩ := h; exact ⟨a, h1, e.free h2, h3, h4⟩
  | bo => exact h
theorem RdV.later {d : D} {v : V} {F1 H1 : Hp} (h : RdV K F H d v) (s : Step F H F1 H1) : RdV K F1 H1 d v := by
  rcases h with h | ⟨a, h1, h2⟩
  · exact .inl (h.mono s.up)
  · exact .inr ⟨a, h1, h2.mono s.up fun o e => s.keep _ _ e⟩
theorem RdV.rep {d : D} {v : V} (h : RdV K F H d v) (s : Same F H) : Rep K H d v := by
  rcases h with h | ⟨a, rfl, h2⟩
  · exact h.mono s
  · exact h2.rep s fun o e => e

theorem RdV.non {v : V} (h : RdV K F H .non v) : v = .non := by
  rcases h with h | ⟨a, _, h⟩
  · rw [Rep] at h; exact h
  · exact h.elim
theorem RdV.bl {b : Bool} {v : V} (h : RdV K F H (.bl b) v) : v = .bl b := by
  rcases h with h | ⟨a, _, h⟩
  · rw [Rep] at h; exact h
  · exact h.elim
theorem RdV.int {i : Int} {v : V} (h : RdV K F H (.int i) v) : v = .int i := by
  rcases h with h | ⟨a, _, h⟩
  · rw [Rep] at h; exact h
  · exact h.elim
theorem RdV.str {x : Str} {v : V} (h : RdV K F H (.str x) v) : v = .str x := by
  rcases h with h | ⟨a, _, h⟩
  · rw [Rep] at h; exact h
  · exact h.elim
theorem RdV.ty {n : String} {v : V} (h : RdV K F H (.ty n) v) : v = .ty n := by
  rcases h with h | ⟨a, _, h⟩
  · rw [Rep] at h; exact h
  · exact h.elim
theorem RdV.tup {xs : List D} {v : V} (s : Same F H) (h : RdV K F H (.tup xs) v) : ∃ a vs, v = .ref a ∧ H a = some (.tup vs) ∧ Reps K F xs vs := by
  rcases h with h | ⟨a, _, h⟩
  · rw [Rep] at h
    obtain ⟨a, vs, h1, h2, h3⟩ := h
    exact ⟨a, vs, h1, s _ _ h2, h3⟩
  · exact h.elim
theorem RdV.lst {xs : List D} {v : V} (s : Same F H) (h : RdV K F H (.lst xs) v) : ∃ a vs, v = .ref a ∧ H a = some (.lst vs) ∧ Reps K F xs vs := by
  rcases h with h | ⟨a, h1, h⟩
  · rw [Rep] at h
    obtain ⟨a, vs, h1, h2, h3⟩ := h
    exact ⟨a, vs, h1, s _ _ h2, h3⟩
  · obtain ⟨vs, h2, h3⟩ := h
    exact ⟨a, vs, h1, h2, h3⟩
theorem RdV.scr {xs : List D} {v : V} (s : Same F H) (h : RdV K F H (.scr xs) v) : ∃ a vs, v = .ref a ∧ SqL K H a vs ∧ Reps K F xs vs := by
  rcases h with h | ⟨a, _, h⟩
  · rw [Rep] at h
    obtain ⟨a, vs, h1, h2, h3⟩ := h
    exact ⟨a, vs, h1, Same.seq s h2, h3⟩
  · exact h.elim

structure Post (K : PySem.W.Frag) (F H : Hp) (k : Kd) (d : D) (F' : Hp) (v : V) (H' : Hp) : Prop where
  st : Step F H F' H'
  val : Val K F' H H' k d v
theorem Post.frz {d : D} {v : V} (p : Post K F H .ow d F' v H') : ∃ F'', Post K F H .fz d F'' v H' := by
  obtain ⟨s, a, rfl, h1, h2, h3⟩ := p
  obtain ⟨o, ho⟩ := h3.some
  have up : Same F' (upd F' a o) := fun b u e => by
    rw [upd_ne]; exact e
    rintro rfl; rw [h2] at e; cases e
  refine ⟨upd F' a o, ⟨s.up.trans up, fun b u e => ?_, s.keep, fun b u e => ?_⟩, h3.rep up fun o' e => ?_⟩
  · by_cases hb : b = a
    · subst hb; rw [upd_same] at e; cases e; exact ho
    · rw [upd_ne hb] at e; exact s.sub _ _ e
  · by_cases hb : b = a
    · subst hb; exact .inr h1
    · rw [upd_ne hb] at e; exact s.new _ _ e
  · rw [ho] at e; cases e; exact upd_same
theorem Post.own {a : Addr} {o : HO} {d : D} (s : Step F H F' H') (n : H' a = none) (c : ∀ H2, H2 a = some o → Cell K F' H2 a d) : Post K F H .ow d F' (.ref a) (upd H' a o) := by
  have up : Same H' (upd H' a o) := fun b u e => by
    rw [upd_ne]; exact e
    rintro rfl; rw [n] at e; cases e
  exact ⟨⟨s.up, s.sub.trans up, s.keep.trans up, s.new⟩, a, rfl, s.keep.free n, s.sub.free n, c _ upd_same⟩
theorem Post.made {a : Addr} {o : HO} {d : D} (s : Step F H F' H') (n : H' a = none) (c : ∀ F2, Same F' F2 → F2 a = some o → Rep K F2 d (.ref a)) : ∃ F2, Post K F H .fz d F2 (.ref a) (upd H' a o) := by
  have up : ∀ G : Hp, G a = none → Same G (upd G a o) := fun G n b u e => by
    rw [upd_ne]; exact e
    rintro rfl; rw [n] at e; cases e
  have nf : F' a = none := s.sub.free n
  refine ⟨upd F' a o, ⟨s.up.trans (up _ nf), fun b u e => ?_, s.keep.trans (up _ n), fun b u e => ?_⟩, c _ (up _ nf) upd_same⟩
  · by_cases hb : b = a
    · subst hb; rw [upd_same] at e ⊢; exact e
    · rw [upd_ne hb] at e ⊢; exact s.sub _ _ e
  · by_cases hb : b = a
    · subst hb; exact .inr (s.keep.free n)
    · rw [upd_ne hb] at e; exact s.new _ _ e
theorem Post.pure {d : D} {v : V} (s : Step F H F' H') (h : Rep K F' d v) : Post K F H .fz d F' v H' := ⟨s, h⟩

abbrev Ev := List (Option (Kd × D))
structure FI (K : PySem.W.Frag) (F0 H0 F H : Hp) (ev : Ev) (σ : St) : Prop where
  st : Step F0 H0 F H
  at_ : ∀ (i : Nat) k d, ev[i]? = some (some (k, d)) → k ≠ .bo ∧ ∃ v, σ[i]? = some (some v) ∧ Val K F H0 H k d v
  apart : ∀ (i j : Nat) d e, i ≠ j → ev[i]? = some (some (.ow, d)) → ev[j]? = some (some (.ow, e)) → σ[i]? ≠ σ[j]?
  len : ev.length = σ.length
variable {ev : Ev} {σ : St}
theorem FI.later {F1 H1 : Hp} (f : FI K F0 H0 F H ev σ) (s : Step F H F1 H1) : FI K F0 H0 F1 H1 ev σ :=
  ⟨f.st.trans s, fun i k d e => by obtain ⟨n, v, e1, h⟩ := f.at_ i k d e; exact ⟨n, v, e1, h.later s⟩, f.apart, f.len⟩
theorem FI.sub (f : FI K F0 H0 F H ev σ) : Same F H := f.st.sub
theorem FI.refl (f : FI K F0 H0 F H ev σ) : Step F H F H := .refl f.sub
theorem FI.set {i : Nat} {k : Kd} {d : D} {v : V} (f : FI K F0 H0 F H ev σ) (p : Post K F H k d F' v H') (nb : k ≠ .bo) : FI K F0 H0 F' H' (ev.set i (some (k, d))) (σ.set i (some v)) := by
  have f' := f.later p.st
  refine ⟨f'.st, fun j k' d' e => ?_, fun j l d1 d2 hjl e1 e2 => ?_, by simpa using f.len⟩
  · by_cases hj : i = j
    · subst hj
      rw [List.getElem?_set_self'] at e
      cases q : ev[i]? with
      | none => rw [q] at e; cases e
      | some z =>
        rw [q] at e
        cases e
        have hi : i < σ.length := by rw [← f.len]; exact (List.getElem?_eq_some_iff.mp q).1
        exact ⟨nb, v, by rw [List.getElem?_set_self hi], p.val.early f.st.keep⟩
    · rw [List.getElem?_set_ne hj] at e ⊢
      exact f'.at_ j k' d' e
  · -- an owned new one differs from the others
    have key : ∀ (j : Nat) (e' : D), i ≠ j → k = .ow → ev[j]? = some (some (.ow, e')) → σ[j]? ≠ some (some v) := fun j e' hij hk ej z => by
      subst hk
      obtain ⟨_, u, ej', b, hb, _, _, c⟩ := f.at_ j _ _ ej
      obtain ⟨a, ha, hn, _, _⟩ := p.val
      rw [z] at ej'
      have ej'' : v = u := by simpa using ej'
      subst ej''; subst ha; cases hb
      obtain ⟨o, ho⟩ := c.some
      rw [hn] at ho; cases ho
    have inEv : ∀ {m : Nat} {x : Option (Kd × D)}, (ev.set i (some (k, d)))[i]? = some x → (σ.set i (some v))[i]? = some (some v) := fun {m x} e => by
      rw [List.getElem?_set_self'] at e
      cases q : ev[i]? with
      | none => rw [q] at e; cases e
      | some z =>
        have hi : i < σ.length := by rw [← f.len]; exact (List.getElem?_eq_some_iff.mp q).1
        rw [List.getElem?_set_self hi]
    have kow : ∀ {x : D}, (ev.set i (some (k, d)))[i]? = some (some (.ow, x)) → k = .ow := fun {x} e => by
      rw [List.getElem?_set_self'] at e
      cases q : ev[i]? with
      | none => rw [q] at e; cases e
      | some z =>
        rw [q] at e
        have : some (k, d) = some (Kd.ow, x) := Option.some.inj e
        cases this; rfl
    by_cases hj : i = j
    · subst hj
      rw [List.getElem?_set_ne hjl] at e2
      rw [inEv (m := i) e1, List.getElem?_set_ne hjl]
      exact fun z => key l d2 hjl (kow e1) e2 z.symm
    · by_cases hl : i = l
      · subst hl
        rw [List.getElem?_set_ne hj] at e1
        rw [inEv (m := i) e2, List.getElem?_set_ne hj]
        exact fun z => key j d1 hj (kow e2) e1 z
      · rw [List.getElem?_set_ne hj] at e1 ⊢
        rw [List.getElem?_set_ne hl] at e2 ⊢
        exact f.apart j l d1 d2 hjl e1 e2
theorem FI.weak {ev' : Ev} (f : FI K F0 H0 F H ev σ) (hl : ev'.length = ev.length) (w : ∀ (i : Nat) k d, ev'[i]? = some (some (k, d)) → ev[i]? = some (some (k, d))) : FI K F0 H0 F H ev' σ :=
  ⟨f.st, fun i k d e => f.at_ i k d (w i k d e), fun i j d e h a b => f.apart i j d e h (w _ _ _ a) (w _ _ _ b), hl.trans f.len⟩
end
end L3
set_option linter.all false
set_option maxRecDepth 100000
namespace L3
open PySem L2
inductive R where | ok (k : Kd) (d : D) | ex (C : Addr) | no
inductive RA where | ok (l : List (Kd × D)) | ex (C : Addr) | no
inductive Fl where | nx (ev : Ev) | rt (k : Kd) (d : D) | bk (ev : Ev) | ct (ev : Ev) | ex (C : Addr) | no
abbrev Psi := Addr → Hp → Prop

def ValA (K : PySem.W.Frag) (F' H H' : Hp) : List (Kd × D) → List V → Prop
  | [], vs => vs = []
  | (k, d) :: l, vs => ∃ v r, vs = v :: r ∧ k ≠ .ow ∧ Val K F' H H' k d v ∧ ValA K F' H H' l r

def tV (K : PySem.W.Frag) (F0 H0 : Hp) (Ψ : Psi) (f : Ev → R) : TE := fun σ H Q => ∃ F ev, FI K F0 H0 F H ev σ ∧ match f ev with
  | .ok k d => ∀ F' v H', Post K F H k d F' v H' → Q v H'
  | .ex C => ∀ F' H', Step F0 H0 F' H' → Ψ C H'
  | .no => False
def tVT (K : PySem.W.Frag) (F0 H0 : Hp) (Ψ : Psi) (f : Ev → R) : TT := fun σ H Q => ∃ F ev, FI K F0 H0 F H ev σ ∧ match f ev with
  | .ok _ (.bl b) => ∀ F' H', Step F H F' H' → Q b H'
  | .ex C => ∀ F' H', Step F0 H0 F' H' → Ψ C H'
  | _ => False
def tVA (K : PySem.W.Frag) (F0 H0 : Hp) (Ψ : Psi) (f : Ev → RA) : TA := fun σ H Q => ∃ F ev, FI K F0 H0 F H ev σ ∧ match f ev with
  | .ok l => ∀ F' vs H', Step F H F' H' → ValA K F' H H' l vs → Q vs H'
  | .ex C => ∀ F' H', Step F0 H0 F' H' → Ψ C H'
  | .no => False
def FlowTo (K : PySem.W.Frag) (F0 H0 : Hp) (Ψ : Psi) (F : Hp) (D : Ends) : Fl → Prop
  | .nx ev => ∀ F' H' σ', Same F F' → FI K F0 H0 F' H' ev σ' → D.nx σ' H'
  | .rt k d => ∀ F' v H', Post K F0 H0 k d F' v H' → D.rt v H'
  | .bk ev => ∀ F' H' σ', Same F F' → FI K F0 H0 F' H' ev σ' → D.bk σ' H'
  | .ct ev => ∀ F' H' σ', Same F F' → FI K F0 H0 F' H' ev σ' → D.ct σ' H'
  | .ex C => ∀ F' H', Step F0 H0 F' H' → Ψ C H'
  | .no => False
def tSv (K : PySem.W.Frag) (F0 H0 : Hp) (Ψ : Psi) (g : Ev → Fl) : TS := fun D σ H => ∃ F ev, FI K F0 H0 F H ev σ ∧ FlowTo K F0 H0 Ψ F D (g ev)

def VE (X : Cx) (F0 H0 : Hp) (Ψ : Psi) (e : Expr) (f : Ev → R) : Prop := PE X e (tV X.K F0 H0 Ψ f)
def VT (X : Cx) (F0 H0 : Hp) (Ψ : Psi) (e : Expr) (f : Ev → R) : Prop := PT X e (tVT X.K F0 H0 Ψ f)
def VW (X : Cx) (F0 H0 : Hp) (Ψ : Psi) (e : Expr) (f : Ev → R) : Prop := PW X e (tVT X.K F0 H0 Ψ f)
def VA (X : Cx) (F0 H0 : Hp) (Ψ : Psi) (es : List Expr) (f : Ev → RA) : Prop := PA X es (tVA X.K F0 H0 Ψ f)
def VS (X : Cx) (F0 H0 : Hp) (Ψ : Psi) (st : Stmt) (g : Ev → Fl) : Prop := PS X st (tSv X.K F0 H0 Ψ g)
def VSs (X : Cx) (F0 H0 : Hp) (Ψ : Psi) (sts : List Stmt) (g : Ev → Fl) : Prop := PSs X sts (tSv X.K F0 H0 Ψ g)

section
variable {X : Cx} {K : PySem.W.Frag} {F0 H0 F H F' H' : Hp} {Ψ : Psi} {σ : St} {ev : Ev}
def varR (i : Nat) (ev : Ev) : R := match ev[i]? with
  | some (some (.fz, d)) => .ok .fz d
  | some (some (.ow, d)) => .ok .bo d
  | _ => .no
theorem tVar_of {i : Nat} {Q : VK} (h : tV K F0 H0 Ψ (varR i) σ H Q) : tVar i σ H Q := by
  obtain ⟨F, ev, fi, m⟩ := h
  unfold varR at m
  split at m
  · rename_i k d hm
    split at hm
    · rename_i d' e
      cases hm
      obtain ⟨_, v, e1, hv⟩ := fi.at_ _ _ _ e
      exact ⟨v, e1, m F v H ⟨fi.refl, hv⟩⟩
    · rename_i d' e
      cases hm
      obtain ⟨_, v, e1, a, h1, h2, h3, h4⟩ := fi.at_ _ _ _ e
      exact ⟨v, e1, m F v H ⟨fi.refl, a, h1, h3, h4⟩⟩
    · cases hm
  · rename_i C hm
    split at hm <;> cases hm
  · exact m.elim
def conR (d : D) (_ : Ev) : R := .ok .fz d
theorem tC_of {v : V} {d : D} {Q : VK} (r : Rep K F0 d v) (h : tV K F0 H0 Ψ (conR d) σ H Q) : tC v σ H Q := by
  obtain ⟨F, ev, fi, m⟩ := h
  exact m F v H ⟨fi.refl, r.mono fi.st.up⟩

abbrev G2 := D → D → Option (Kd × D)
def toR : Option (Kd × D) → R
  | some (k, d) => .ok k d
  | none => .no
def op2 (g : G2) : R → R → R
  | .ok _ a, .ok _ b => toR (g a b)
  | .ok _ _, r => r
  | r, _ => r
def OkOp (K : PySem.W.Frag) (r : R2) (g : G2) : Prop := ∀ (F H : Hp) dx dy x y k d (Q : VK), Same F H → RdV K F H dx x → RdV K F H dy y → g dx dy = some (k, d) → (∀ F' v H', Post K F H k d F' v H' → Q v H') → r x y H Q
theorem OkOp.or {r r' : R2} {g g' : G2} (h : OkOp K r g) (h' : OkOp K r' g') : OkOp K (fun x y H Q => r x y H Q ∨ r' x y H Q) (fun a b => (g a b).or (g' a b)) := by
  intro F H dx dy x y k d Q s rx ry e q
  dsimp only at e
  cases e1 : g dx dy with
  | some z => obtain ⟨k', d'⟩ := z; rw [e1] at e; cases e; exact .inl (h F H dx dy x y k d Q s rx ry e1 q)
  | none => rw [e1] at e; exact .inr (h' F H dx dy x y k d Q s rx ry e q)
theorem tOp_of {r : R2} {g : G2} {f1 f2 : Ev → R} {Q : VK} (ho : OkOp K r g) (h : tV K F0 H0 Ψ (fun ev => op2 g (f1 ev) (f2 ev)) σ H Q) : tOp r (tV K F0 H0 Ψ f1) (tV K F0 H0 Ψ f2) σ H Q := by
  obtain ⟨F, ev, fi, m⟩ := h
  try dsimp only at m
  refine ⟨F, ev, fi, ?_⟩
  cases h1 : f1 ev with
  | no => rw [h1] at m; exact m
  | ex C => rw [h1] at m; exact m
  | ok k1 d1 =>
    rw [h1] at m
    intro F1 x H1 p1
    refine ⟨F1, ev, fi.later p1.st, ?_⟩
    cases h2 : f2 ev with
    | no => rw [h2] at m; exact m
    | ex C => rw [h2] at m; exact m
    | ok k2 d2 =>
      rw [h2] at m
      intro F2 y H2 p2
      have m : match toR (g d1 d2) with
        | .ok k d => ∀ F' v H', Post K F H k d F' v H' → Q v H'
        | .ex C => ∀ F' H', Step F0 H0 F' H' → Ψ C H'
        | .no => False := m
      cases e : g d1 d2 with
      | none => rw [e] at m; exact m.elim
      | some z =>
        obtain ⟨k, d⟩ := z
        rw [e] at m
        have s := p1.st.trans p2.st
        exact ho F2 H2 d1 d2 x y k d Q p2.st.sub (p1.val.rd.later p2.st) p2.val.rd e fun F3 v H3 p3 => m F3 v H3 ⟨s.trans p3.st, p3.val.early s.keep⟩

theorem tB_of {f : Ev → R} {Q : Bool → Hp → Prop} (h : tVT K F0 H0 Ψ f σ H Q) : tB (tV K F0 H0 Ψ f) σ H Q := by
  obtain ⟨F, ev, fi, m⟩ := h
  try dsimp only at m
  refine ⟨F, ev, fi, ?_⟩
  cases h1 : f ev with
  | no => rw [h1] at m; exact m
  | ex C => rw [h1] at m; exact m
  | ok k d =>
    rw [h1] at m
    intro F1 v H1 p
    cases d with
    | bl b => exact ⟨b, p.val.rd.bl, m F1 H1 p.st⟩
    | _ => exact m.elim
def andR : R → R → R
  | .ok _ (.bl b), r => if b then r else .ok .fz (.bl false)
  | .ex C, _ => .ex C
  | _, _ => .no
def orR : R → R → R
  | .ok _ (.bl b), r => if b then .ok .fz (.bl true) else r
  | .ex C, _ => .ex C
  | _, _ => .no
def notR : R → R
  | .ok _ (.bl b) => .ok .fz (.bl !b)
  | .ex C => .ex C
  | _ => .no
theorem tAnd_of {f g : Ev → R} {Q : Bool → Hp → Prop} (h : tVT K F0 H0 Ψ (fun ev => andR (f ev) (g ev)) σ H Q) : tAnd (tVT K F0 H0 Ψ f) (tVT K F0 H0 Ψ g) σ H Q := by
  obtain ⟨F, ev, fi, m⟩ := h
  try dsimp only at m
  refine ⟨F, ev, fi, ?_⟩
  cases h1 : f ev with
  | no => rw [h1] at m; exact m
  | ex C => rw [h1] at m; exact m
  | ok k d =>
    rw [h1] at m
    cases d with
    | bl b =>
      intro F1 H1 p
      cases b with
      | true =>
        rw [if_pos rfl]
        refine ⟨F1, ev, fi.later p, ?_⟩
        have m : match g ev with
          | .ok _ (.bl b) => ∀ F' H', Step F H F' H' → Q b H'
          | .ex C => ∀ F' H', Step F0 H0 F' H' → Ψ C H'
          | _ => False := m
        cases h2 : g ev with
        | no => rw [h2] at m; exact m
        | ex C => rw [h2] at m; exact m
        | ok k2 d2 =>
          rw [h2] at m
          cases d2 with
          | bl b => exact fun F2 H2 p2 => m F2 H2 (p.trans p2)
          | _ => exact m.elim
      | false => rw [if_neg Bool.false_ne_true]; exact m F1 H1 p
    | _ => exact m.elim
theorem tOr_of {f g : Ev → R} {Q : Bool → Hp → Prop} (h : tVT K F0 H0 Ψ (fun ev => orR (f ev) (g ev)) σ H Q) : tOr (tVT K F0 H0 Ψ f) (tVT K F0 H0 Ψ g) σ H Q := by
  obtain ⟨F, ev, fi, m⟩ := h
  try dsimp only at m
  refine ⟨F, ev, fi, ?_⟩
  cases h1 : f ev with
  | no => rw [h1] at m; exact m
  | ex C => rw [h1] at m; exact m
  | ok k d =>
    rw [h1] at m
    cases d with
    | bl b =>
      intro F1 H1 p
      cases b with
      | false =>
        rw [if_neg Bool.false_ne_true]
        refine ⟨F1, ev, fi.later p, ?_⟩
        have m : match g ev with
          | .ok _ (.bl b) => ∀ F' H', Step F H F' H' → Q b H'
          | .ex C => ∀ F' H', Step F0 H0 F' H' → Ψ C H'
          | _ => False := m
        cases h2 : g ev with
        | no => rw [h2] at m; exact m
        | ex C => rw [h2] at m; exact m
        | ok k2 d2 =>
          rw [h2] at m
          cases d2 with
          | bl b => exact fun F2 H2 p2 => m F2 H2 (p.trans p2)
          | _ => exact m.elim
      | true => rw [if_pos rfl]; exact m F1 H1 p
    | _ => exact m.elim
theorem tNot_of {f : Ev → R} {Q : Bool → Hp → Prop} (h : tVT K F0 H0 Ψ (fun ev => notR (f ev)) σ H Q) : tNot (tVT K F0 H0 Ψ f) σ H Q := by
  obtain ⟨F, ev, fi, m⟩ := h
  try dsimp only at m
  refine ⟨F, ev, fi, ?_⟩
  cases h1 : f ev with
  | no => rw [h1] at m; exact m
  | ex C => rw [h1] at m; exact m
  | ok k d =>
    rw [h1] at m
    cases d with
    | bl b => exact fun F1 H1 p => m F1 H1 p
    | _ => exact m.elim
theorem tAndV_of {f g : Ev → R} {Q : VK} (h : tV K F0 H0 Ψ (fun ev => andR (f ev) (g ev)) σ H Q) : tAndV (tV K F0 H0 Ψ f) (tV K F0 H0 Ψ g) σ H Q := by
  obtain ⟨F, ev, fi, m⟩ := h
  try dsimp only at m
  refine ⟨F, ev, fi, ?_⟩
  cases h1 : f ev with
  | no => rw [h1] at m; exact m
  | ex C => rw [h1] at m; exact m
  | ok k d =>
    rw [h1] at m
    intro F1 x H1 p
    cases d with
    | bl b =>
      refine ⟨b, p.val.rd.bl, ?_⟩
      cases b with
      | true =>
        rw [if_pos rfl]
        refine ⟨F1, ev, fi.later p.st, ?_⟩
        have m : match g ev with
          | .ok k d => ∀ F' v H', Post K F H k d F' v H' → Q v H'
          | .ex C => ∀ F' H', Step F0 H0 F' H' → Ψ C H'
          | .no => False := m
        cases h2 : g ev with
        | no => rw [h2] at m; exact m
        | ex C => rw [h2] at m; exact m
        | ok k2 d2 => rw [h2] at m; exact fun F2 y H2 p2 => m F2 y H2 ⟨p.st.trans p2.st, p2.val.early p.st.keep⟩
      | false => rw [if_neg Bool.false_ne_true]; exact m F1 _ H1 ⟨p.st, by rw [Val, Rep]⟩
    | _ => exact m.elim
def ifR : R → R → R → R
  | .ok _ (.bl b), x, y => if b then x else y
  | .ex C, _, _ => .ex C
  | _, _, _ => .no
def frzK : Kd → Kd
  | .ow => .fz
  | k => k
def consA : R → RA → RA
  | .ok k d, .ok l => .ok ((frzK k, d) :: l)
  | .ok _ _, r => r
  | .ex C, _ => .ex C
  | .no, _ => .no
theorem ValA.later {F1 H1 : Hp} : ∀ {l : List (Kd × D)} {vs : List V}, ValA K F' H H' l vs → Step F' H' F1 H1 → ValA K F1 H H1 l vs
  | [], _, h, _ => h
  | (k, d) :: l, _, h, s => by
    obtain ⟨v, r, h1, h2, h3, h4⟩ := h
    exact ⟨v, r, h1, h2, h3.later s, ValA.later h4 s⟩
theorem ValA.early {H1 : Hp} : ∀ {l : List (Kd × D)} {vs : List V}, ValA K F' H1 H' l vs → Same H H1 → ValA K F' H H' l vs
  | [], _, h, _ => h
  | (k, d) :: l, _, h, s => by
    obtain ⟨v, r, h1, h2, h3, h4⟩ := h
    exact ⟨v, r, h1, h2, h3.early s, ValA.early h4 s⟩
theorem Post.frzK {k : Kd} {d : D} {v : V} (p : Post K F H k d F' v H') : ∃ F'', Post K F H (frzK k) d F'' v H' ∧ L3.frzK k ≠ .ow := by
  cases k with
  | fz => exact ⟨F', p, by simp [L3.frzK]⟩
  | bo => exact ⟨F', p, by simp [L3.frzK]⟩
  | ow => obtain ⟨F'', q⟩ := p.frz; exact ⟨F'', q, by simp [L3.frzK]⟩
theorem tNil_of {Q : List V → Hp → Prop} (h : tVA K F0 H0 Ψ (fun _ => .ok []) σ H Q) : tNil σ H Q := by
  obtain ⟨F, ev, fi, m⟩ := h
  exact m F [] H fi.refl rfl
theorem tCons_of {f : Ev → R} {fs : Ev → RA} {Q : List V → Hp → Prop} (h : tVA K F0 H0 Ψ (fun ev => consA (f ev) (fs ev)) σ H Q) : tCons (tV K F0 H0 Ψ f) (tVA K F0 H0 Ψ fs) σ H Q := by
  obtain ⟨F, ev, fi, m⟩ := h
  try dsimp only at m
  refine ⟨F, ev, fi, ?_⟩
  cases h1 : f ev with
  | no => rw [h1] at m; exact m
  | ex C => rw [h1] at m; exact m
  | ok k d =>
    rw [h1] at m
    intro F1 x H1 p
    obtain ⟨F1, p, nw⟩ := p.frzK
    refine ⟨F1, ev, fi.later p.st, ?_⟩
    cases h2 : fs ev with
    | no => rw [h2] at m; exact m
    | ex C => rw [h2] at m; exact m
    | ok l =>
      rw [h2] at m
      exact fun F2 vs H2 s v => m F2 (x :: vs) H2 (p.st.trans s) ⟨x, vs, rfl, nw, p.val.later s, v.early p.st.keep⟩

def allFz : List (Kd × D) → Option (List D)
  | [] => some []
  | (.fz, d) :: l => (allFz l).map (d :: ·)
  | _ => none
theorem ValA.fz : ∀ {l : List (Kd × D)} {vs : List V} {ds : List D}, ValA K F' H H' l vs → allFz l = some ds → Reps K F' ds vs
  | [], _, _, h, e => by cases e; cases h; exact .nil
  | (k, d) :: l, _, ds, h, e => by
    obtain ⟨v, r, rfl, h2, h3, h4⟩ := h
    cases k with
    | fz =>
      simp only [allFz] at e
      cases q : allFz l with
      | none => rw [q] at e; cases e
      | some ds' => rw [q] at e; cases e; exact .cons h3 (ValA.fz h4 q)
    | _ => cases e
theorem ValA.rds : ∀ {l : List (Kd × D)} {vs : List V}, ValA K F' H H' l vs → Same F' H' → Reps K H' (l.map (·.2)) vs
  | [], _, h, _ => by cases h; exact .nil
  | (k, d) :: l, _, h, s => by
    obtain ⟨v, r, rfl, h2, h3, h4⟩ := h
    exact .cons (h3.rd.rep s) (ValA.rds h4 s)
theorem ValA.length : ∀ {l : List (Kd × D)} {vs : List V}, ValA K F' H H' l vs → l.length = vs.length
  | [], _, h => by cases h; rfl
  | (k, d) :: l, _, h => by obtain ⟨v, r, rfl, h2, h3, h4⟩ := h; simp [ValA.length h4]
def LIM : Nat := 1000000
def tupR : RA → R
  | .ok l => match allFz l with
    | some ds => if ds.length ≤ LIM then .ok .fz (.tup ds) else .no
    | none => .no
  | .ex C => .ex C
  | .no => .no
def lstR : RA → R
  | .ok l => match allFz l with
    | some ds => if ds.length ≤ LIM then .ok .ow (.lst ds) else .no
    | none => .no
  | .ex C => .ex C
  | .no => .no
theorem tTup_of {fs : Ev → RA} {Q : VK} (h : tV K F0 H0 Ψ (fun ev => tupR (fs ev)) σ H Q) : tTup (tVA K F0 H0 Ψ fs) σ H Q := by
  obtain ⟨F, ev, fi, m⟩ := h
  try dsimp only at m
  refine ⟨F, ev, fi, ?_⟩
  cases h1 : fs ev with
  | no => rw [h1] at m; exact m
  | ex C => rw [h1] at m; exact m
  | ok l =>
    rw [h1] at m
    intro F1 vs H1 s va
    simp only [tupR] at m
    cases q : allFz l with
    | none => rw [q] at m; exact m.elim
    | some ds =>
      rw [q] at m
      by_cases hl : ds.length ≤ LIM
      · simp only [hl, if_true] at m
        have rs := va.fz q
        refine ⟨by rw [← rs.length]; exact Nat.le_trans hl sizeLine_ge, fun p hp => ?_⟩
        obtain ⟨F2, p2⟩ := Post.made (K := K) (d := .tup ds) (o := .tup vs) s hp fun F2 up e => by rw [Rep]; exact ⟨p, vs, rfl, e, rs.mono up⟩
        exact m F2 _ _ p2
      · simp only [hl, if_false] at m
theorem tLst_of {fs : Ev → RA} {Q : VK} (h : tV K F0 H0 Ψ (fun ev => lstR (fs ev)) σ H Q) : tLst (tVA K F0 H0 Ψ fs) σ H Q := by
  obtain ⟨F, ev, fi, m⟩ := h
  try dsimp only at m
  refine ⟨F, ev, fi, ?_⟩
  cases h1 : fs ev with
  | no => rw [h1] at m; exact m
  | ex C => rw [h1] at m; exact m
  | ok l =>
    rw [h1] at m
    intro F1 vs H1 s va
    simp only [lstR] at m
    cases q : allFz l with
    | none => rw [q] at m; exact m.elim
    | some ds =>
      rw [q] at m
      by_cases hl : ds.length ≤ LIM
      · simp only [hl, if_true] at m
        have rs := va.fz q
        refine ⟨by rw [← rs.length]; exact Nat.le_trans hl sizeLine_ge, fun p hp => ?_⟩
        exact m F1 _ _ (Post.own s hp fun H2 e => ⟨vs, e, rs⟩)
      · simp only [hl, if_false] at m
abbrev GN := List D → Option (Kd × D)
def RdA (K : PySem.W.Frag) (F H : Hp) : List D → List V → Prop
  | [], vs => vs = []
  | d :: l, vs => ∃ v r, vs = v :: r ∧ RdV K F H d v ∧ RdA K F H l r
theorem ValA.rda : ∀ {l : List (Kd × D)} {vs : List V}, ValA K F' H H' l vs → RdA K F' H' (l.map (·.2)) vs
  | [], _, h => h
  | (k, d) :: l, _, h => by
    obtain ⟨v, r, rfl, h2, h3, h4⟩ := h
    exact ⟨v, r, rfl, h3.rd, ValA.rda h4⟩
def OkCall (K : PySem.W.Frag) (r : List V → Hp → VK → Prop) (g : GN) : Prop := ∀ (F H : Hp) ds vs k d (Q : VK), Same F H → RdA K F H ds vs → g ds = some (k, d) → (∀ F' v H', Post K F H k d F' v H' → Q v H') → r vs H Q
theorem OkCall.or {r r' : List V → Hp → VK → Prop} {g g' : GN} (h : OkCall K r g) (h' : OkCall K r' g') : OkCall K (fun x H Q => r x H Q ∨ r' x H Q) (fun a => (g a).or (g' a)) := by
  intro F H ds vs k d Q s rx e q
  dsimp only at e
  cases e1 : g ds with
  | some z => obtain ⟨k', d'⟩ := z; rw [e1] at e; cases e; exact .inl (h F H ds vs k d Q s rx e1 q)
  | none => rw [e1] at e; exact .inr (h' F H ds vs k d Q s rx e q)
def callR (g : GN) : RA → R
  | .ok l => toR (g (l.map (·.2)))
  | .ex C => .ex C
  | .no => .no
theorem tCB_of {r : List V → Hp → VK → Prop} {g : GN} {fs : Ev → RA} {Q : VK} (ho : OkCall K r g) (h : tV K F0 H0 Ψ (fun ev => callR g (fs ev)) σ H Q) : tCB r (tVA K F0 H0 Ψ fs) σ H Q := by
  obtain ⟨F, ev, fi, m⟩ := h
  try dsimp only at m
  refine ⟨F, ev, fi, ?_⟩
  cases h1 : fs ev with
  | no => rw [h1] at m; exact m
  | ex C => rw [h1] at m; exact m
  | ok l =>
    rw [h1] at m
    intro F1 vs H1 s va
    have m : match toR (g (l.map (·.2))) with
        | .ok k d => ∀ F' v H', Post K F H k d F' v H' → Q v H'
        | .ex C => ∀ F' H', Step F0 H0 F' H' → Ψ C H'
        | .no => False := m
    cases e : g (l.map (·.2)) with
    | none => rw [e] at m; exact m.elim
    | some z =>
      obtain ⟨k, d⟩ := z
      rw [e] at m
      exact ho F1 H1 _ vs k d Q s.sub va.rda e fun F3 v H3 p3 => m F3 v H3 ⟨s.trans p3.st, p3.val.early s.keep⟩

theorem FlowTo.mono {E : Ends} {r : Fl} (h : FlowTo K F0 H0 Ψ F E r) (s : Same F F') : FlowTo K F0 H0 Ψ F' E r := by
  cases r with
  | nx ev => exact fun F2 H2 σ2 s2 fi => h F2 H2 σ2 (s.trans s2) fi
  | bk ev => exact fun F2 H2 σ2 s2 fi => h F2 H2 σ2 (s.trans s2) fi
  | ct ev => exact fun F2 H2 σ2 s2 fi => h F2 H2 σ2 (s.trans s2) fi
  | rt k d => exact h
  | ex C => exact h
  | no => exact h
def seqG (g h : Ev → Fl) (ev : Ev) : Fl := match g ev with
  | .nx ev' => h ev'
  | r => r
theorem tSeq_of {g h : Ev → Fl} {E : Ends} (q : tSv K F0 H0 Ψ (seqG g h) E σ H) : tSeq (tSv K F0 H0 Ψ g) (tSv K F0 H0 Ψ h) E σ H := by
  obtain ⟨F, ev, fi, m⟩ := q
  refine ⟨F, ev, fi, ?_⟩
  unfold seqG at m
  cases h1 : g ev with
  | nx ev' => rw [h1] at m; exact fun F' H' σ' s fi' => ⟨F', ev', fi', m.mono s⟩
  | _ => rw [h1] at m; exact m
theorem tNext_of {E : Ends} (q : tSv K F0 H0 Ψ .nx E σ H) : tNext E σ H := by
  obtain ⟨F, ev, fi, m⟩ := q
  exact m F H σ (.refl _) fi
def dropG (f : Ev → R) (ev : Ev) : Fl := match f ev with
  | .ok _ _ => .nx ev
  | .ex C => .ex C
  | .no => .no
theorem tDrop_of {f : Ev → R} {E : Ends} (q : tSv K F0 H0 Ψ (dropG f) E σ H) : tDrop (tV K F0 H0 Ψ f) E σ H := by
  obtain ⟨F, ev, fi, m⟩ := q
  refine ⟨F, ev, fi, ?_⟩
  unfold dropG at m
  cases h1 : f ev with
  | no => rw [h1] at m; exact m
  | ex C => rw [h1] at m; exact m
  | ok k d => rw [h1] at m; exact fun F1 x H1 p => m F1 H1 σ p.st.up (fi.later p.st)
def retG (f : Ev → R) (ev : Ev) : Fl := match f ev with
  | .ok .bo _ => .no
  | .ok k d => .rt k d
  | .ex C => .ex C
  | .no => .no
theorem tRet_of {f : Ev → R} {E : Ends} (q : tSv K F0 H0 Ψ (retG f) E σ H) : tRet (tV K F0 H0 Ψ f) E σ H := by
  obtain ⟨F, ev, fi, m⟩ := q
  refine ⟨F, ev, fi, ?_⟩
  unfold retG at m
  cases h1 : f ev with
  | no => rw [h1] at m; exact m
  | ex C => rw [h1] at m; exact m
  | ok k d =>
    rw [h1] at m
    intro F1 x H1 p
    cases k with
    | bo => exact m.elim
    | fz => exact m F1 x H1 ⟨fi.st.trans p.st, p.val.early fi.st.keep⟩
    | ow => exact m F1 x H1 ⟨fi.st.trans p.st, p.val.early fi.st.keep⟩
def retVarG (i : Nat) (ev : Ev) : Fl := match ev[i]? with
  | some (some (.fz, d)) => .rt .fz d
  | some (some (.ow, d)) => .rt .ow d
  | _ => .no
def ifG (c : Ev → R) (g h : Ev → Fl) (ev : Ev) : Fl := match c ev with
  | .ok _ (.bl b) => if b then g ev else h ev
  | .ex C => .ex C
  | _ => .no
theorem tIfS_of {c : Ev → R} {g h : Ev → Fl} {E : Ends} (q : tSv K F0 H0 Ψ (ifG c g h) E σ H) : tIfS (tVT K F0 H0 Ψ c) (tSv K F0 H0 Ψ g) (tSv K F0 H0 Ψ h) E σ H := by
  obtain ⟨F, ev, fi, m⟩ := q
  refine ⟨F, ev, fi, ?_⟩
  unfold ifG at m
  cases h1 : c ev with
  | no => rw [h1] at m; exact m
  | ex C => rw [h1] at m; exact m
  | ok k d =>
    rw [h1] at m
    cases d with
    | bl b =>
      intro F1 H1 p
      cases b with
      | true => rw [if_pos rfl]; exact ⟨F1, ev, fi.later p, FlowTo.mono m p.up⟩
      | false => rw [if_neg Bool.false_ne_true]; exact ⟨F1, ev, fi.later p, FlowTo.mono m p.up⟩
    | _ => exact m.elim

abbrev B1 := D → Ev → Option Ev
abbrev BN := List D → Ev → Option Ev
def gV (K : PySem.W.Frag) (F0 H0 : Hp) (b : B1) : TG := fun v σ H Q => ∃ F ev d ev', FI K F0 H0 F H ev σ ∧ Rep K F d v ∧ b d ev = some ev' ∧ ∀ H' σ', H' = H → FI K F0 H0 F H ev' σ' → Q σ' H'
def gVs (K : PySem.W.Frag) (F0 H0 : Hp) (b : BN) : TGs := fun vs σ H Q => ∃ F ev ds ev', FI K F0 H0 F H ev σ ∧ Reps K F ds vs ∧ b ds ev = some ev' ∧ ∀ H' σ', H' = H → FI K F0 H0 F H ev' σ' → Q σ' H'
def bName (i : Nat) : B1 := fun d ev => some (ev.set i (some (.fz, d)))
theorem gName_of {i : Nat} {v : V} {Q : St → Hp → Prop} (q : gV K F0 H0 (bName i) v σ H Q) : gName i v σ H Q := by
  obtain ⟨F, ev, d, ev', fi, r, e, m⟩ := q
  cases e
  exact m H _ rfl (fi.set ⟨fi.refl, r⟩ (by simp))
def bNil : BN := fun ds ev => match ds with
  | [] => some ev
  | _ => none
def bCons (b : B1) (c : BN) : BN := fun ds ev => match ds with
  | d :: r => (b d ev).bind (c r)
  | [] => none
theorem gNil_of {vs : List V} {Q : St → Hp → Prop} (q : gVs K F0 H0 bNil vs σ H Q) : gNil vs σ H Q := by
  obtain ⟨F, ev, ds, ev', fi, r, e, m⟩ := q
  cases ds with
  | nil => cases e; exact ⟨r.unnil, m H σ rfl fi⟩
  | cons d ds => cases e
theorem gCons_of {b : B1} {c : BN} {vs : List V} {Q : St → Hp → Prop} (q : gVs K F0 H0 (bCons b c) vs σ H Q) : gCons (gV K F0 H0 b) (gVs K F0 H0 c) vs σ H Q := by
  obtain ⟨F, ev, ds, ev', fi, r, e, m⟩ := q
  cases ds with
  | nil => cases e
  | cons d ds =>
    obtain ⟨v, t, rfl, h1, h2⟩ := r.uncons
    refine ⟨v, t, rfl, ?_⟩
    simp only [bCons] at e
    cases q1 : b d ev with
    | none => rw [q1] at e; cases e
    | some ev1 =>
      rw [q1] at e
      refine ⟨F, ev, d, ev1, fi, h1, q1, fun H' σ' hH fi' => ?_⟩
      subst hH
      exact ⟨F, ev1, ds, ev', fi', h2, e, m⟩
def bTup (n : Nat) (c : BN) : B1 := fun d ev => match d with
  | .tup ds => if ds.length = n then c ds ev else none
  | _ => none
theorem gTup_of {n : Nat} {c : BN} {v : V} {Q : St → Hp → Prop} (q : gV K F0 H0 (bTup n c) v σ H Q) : gTup K n (gVs K F0 H0 c) v σ H Q := by
  obtain ⟨F, ev, d, ev', fi, r, e, m⟩ := q
  cases d with
  | tup ds =>
    rw [Rep] at r
    obtain ⟨a, vs, h1, h2, h3⟩ := r
    simp only [bTup] at e
    by_cases hn : ds.length = n
    · rw [if_pos hn] at e
      exact ⟨a, vs, h1, SqT.of (fi.sub _ _ h2), by rw [← h3.length]; exact hn, F, ev, ds, ev', fi, h3, e, m⟩
    · rw [if_neg hn] at e; cases e
  | _ => cases e
def setG (i : Nat) (f : Ev → R) (ev : Ev) : Fl := match f ev with
  | .ok .bo _ => .no
  | .ok k d => .nx (ev.set i (some (k, d)))
  | .ex C => .ex C
  | .no => .no
theorem tSet_of {i : Nat} {f : Ev → R} {E : Ends} (q : tSv K F0 H0 Ψ (setG i f) E σ H) : tAsg (tV K F0 H0 Ψ f) (gName i) E σ H := by
  obtain ⟨F, ev, fi, m⟩ := q
  refine ⟨F, ev, fi, ?_⟩
  unfold setG at m
  cases h1 : f ev with
  | no => rw [h1] at m; exact m
  | ex C => rw [h1] at m; exact m
  | ok k d =>
    rw [h1] at m
    intro F1 x H1 p
    cases k with
    | bo => exact m.elim
    | fz => exact m F1 H1 _ p.st.up (fi.set p (by simp))
    | ow => exact m F1 H1 _ p.st.up (fi.set p (by simp))
def asgG (b : B1) (f : Ev → R) (ev : Ev) : Fl := match f ev with
  | .ok .bo _ => .no
  | .ok _ d => match b d ev with
    | some ev' => .nx ev'
    | none => .no
  | .ex C => .ex C
  | .no => .no
theorem tAsg_of {b : B1} {f : Ev → R} {E : Ends} (q : tSv K F0 H0 Ψ (asgG b f) E σ H) : tAsg (tV K F0 H0 Ψ f) (gV K F0 H0 b) E σ H := by
  obtain ⟨F, ev, fi, m⟩ := q
  refine ⟨F, ev, fi, ?_⟩
  unfold asgG at m
  cases h1 : f ev with
  | no => rw [h1] at m; exact m
  | ex C => rw [h1] at m; exact m
  | ok k d =>
    rw [h1] at m
    intro F1 x H1 p
    have go : ∀ F2, Post K F H .fz d F2 x H1 → FlowTo K F0 H0 Ψ F E (match b d ev with
      | some ev' => .nx ev'
      | none => .no) → gV K F0 H0 b x σ H1 E.nx := fun F2 p2 m => by
      cases q : b d ev with
      | none => rw [q] at m; exact m.elim
      | some ev' =>
        rw [q] at m
        exact ⟨F2, ev, d, ev', fi.later p2.st, p2.val, q, fun H' σ' hH fi' => by subst hH; exact m F2 _ σ' p2.st.up fi'⟩
    cases k with
    | bo => exact m.elim
    | fz => exact go F1 p m
    | ow => obtain ⟨F2, p2⟩ := p.frz; exact go F2 p2 m
def frzEv (i : Nat) (ev : Ev) : Ev := match ev[i]? with
  | some (some (.ow, d)) => ev.set i (some (.fz, d))
  | _ => ev
theorem FI.frz (i : Nat) (f : FI K F0 H0 F H ev σ) : ∃ F', Same F F' ∧ FI K F0 H0 F' H (frzEv i ev) σ := by
  unfold frzEv
  split
  · rename_i d e
    obtain ⟨_, v, ev1, hv⟩ := f.at_ i _ _ e
    obtain ⟨a, rfl, h1, h2, h3⟩ := hv
    obtain ⟨o, ho⟩ := h3.some
    have hi : i < σ.length := (List.getElem?_eq_some_iff.mp ev1).1
    have hie : i < ev.length := by rw [f.len]; exact hi
    have up : Same F (upd F a o) := fun b u e => by
      rw [upd_ne]; exact e
      rintro rfl; rw [h2] at e; cases e
    have ne : ∀ {m : Nat} {x : D}, (ev.set i (some (Kd.fz, d)))[m]? = some (some (.ow, x)) → i ≠ m ∧ ev[m]? = some (some (.ow, x)) := fun {m x} q => by
      by_cases hm : i = m
      · subst hm; rw [List.getElem?_set_self hie] at q; cases q
      · rw [List.getElem?_set_ne hm] at q; exact ⟨hm, q⟩
    refine ⟨upd F a o, up, ⟨f.st.up.trans up, fun b u q => ?_, f.st.keep, fun b u q => ?_⟩, fun j k d' q => ?_, fun j l d1 d2 hjl e1 e2 => ?_, by simpa using f.len⟩
    · by_cases hb : b = a
      · subst hb; rw [upd_same] at q; cases q; exact ho
      · rw [upd_ne hb] at q; exact f.sub _ _ q
    · by_cases hb : b = a
      · subst hb; exact .inr h1
      · rw [upd_ne hb] at q; exact f.st.new _ _ q
    · by_cases hj : i = j
      · subst hj
        rw [List.getElem?_set_self hie] at q
        cases q
        exact ⟨by simp, _, ev1, h3.rep up fun o' e => by rw [ho] at e; cases e; exact upd_same⟩
      · rw [List.getElem?_set_ne hj] at q
        obtain ⟨n, u, e3, hu⟩ := f.at_ j k d' q
        refine ⟨n, u, e3, ?_⟩
        cases k with
        | bo => exact absurd rfl n
        | fz => exact Rep.mono up hu
        | ow =>
          obtain ⟨b, rfl, g1, g2, g3⟩ := hu
          have hba : b ≠ a := by
            rintro rfl
            exact f.apart i j d d' hj e q (by rw [ev1, e3])
          exact ⟨b, rfl, g1, by rw [upd_ne hba]; exact g2, g3.mono up fun o e => e⟩
    · exact f.apart j l d1 d2 hjl (ne e1).2 (ne e2).2
  · exact ⟨F, .refl _, f⟩
end
end L3
set_option linter.all false
set_option maxRecDepth 100000
namespace L3
open PySem L2
inductive RI where | ok (ds : List D) | ex (C : Addr) | no
structure Yields (K : PySem.W.Frag) (F : Hp) (J : It) (ds : List D) : Prop where
  go : ∀ (i : Nat) H, Same F H → i < ds.length → J.go i H
  stop : ∀ (i : Nat) H, Same F H → ds.length ≤ i → J.stop i H
  yld : ∀ (i : Nat) F1 H x H', Same F F1 → Same F1 H → i < ds.length → J.yld i H x H' → ∃ F2 d, Step F1 H F2 H' ∧ ds[i]? = some d ∧ Rep K F2 d x
def tVI (K : PySem.W.Frag) (F0 H0 : Hp) (Ψ : Psi) (f : Ev → RI) : TI := fun σ H R => ∃ F ev, FI K F0 H0 F H ev σ ∧ match f ev with
  | .ok ds => ∀ F' H' J, Step F H F' H' → Yields K F' J ds → R J H'
  | .ex C => ∀ F' H', Step F0 H0 F' H' → Ψ C H'
  | .no => False
def VI (X : Cx) (F0 H0 : Hp) (Ψ : Psi) (tg e : Expr) (f : Ev → RI) : Prop := PI X tg e (tVI X.K F0 H0 Ψ f)
def forE (b : B1) (body : Ev → Fl) : List D → Ev → Fl
  | [], ev => .nx ev
  | d :: ds, ev => match b d ev with
    | none => .no
    | some ev1 => match body ev1 with
      | .nx ev2 => forE b body ds ev2
      | .ct ev2 => forE b body ds ev2
      | .bk ev2 => .nx ev2
      | r => r
def forG (f : Ev → RI) (b : B1) (body : Ev → Fl) (ev : Ev) : Fl := match f ev with
  | .ok ds => forE b body ds ev
  | .ex C => .ex C
  | .no => .no
section
variable {X : Cx} {K : PySem.W.Frag} {F0 H0 F H F' H' : Hp} {Ψ : Psi} {σ : St} {ev : Ev}
theorem tFor_of {f : Ev → RI} {b : B1} {body : Ev → Fl} {E : Ends} (q : tSv K F0 H0 Ψ (forG f b body) E σ H) : tFor (tVI K F0 H0 Ψ f) (gV K F0 H0 b) (tSv K F0 H0 Ψ body) E σ H := by
  obtain ⟨F, ev, fi, m⟩ := q
  refine ⟨F, ev, fi, ?_⟩
  unfold forG at m
  cases h1 : f ev with
  | no => rw [h1] at m; exact m
  | ex C => rw [h1] at m; exact m
  | ok ds =>
    rw [h1] at m
    intro F1 H1 J s y
    refine ⟨fun i m σ H => m = ds.length - i ∧ i ≤ ds.length ∧ ∃ F ev, FI K F0 H0 F H ev σ ∧ Same F1 F ∧ FlowTo K F0 H0 Ψ F E (forE b body (ds.drop i) ev),
      ⟨ds.length, by simp, Nat.zero_le _, F1, ev, fi.later s, .refl _, FlowTo.mono m s.up⟩, ?_⟩
    rintro i m σ H ⟨rfl, hi, F, ev, fi, up, fl⟩
    have sH : Same F1 H := up.trans fi.sub
    by_cases hlt : i < ds.length
    · refine .inr ⟨y.go i H sH hlt, fun σ' H' => ∃ F ev, FI K F0 H0 F H' ev σ' ∧ Same F1 F ∧ FlowTo K F0 H0 Ψ F E (forE b body (ds.drop (i + 1)) ev), fun σ' H' n => ⟨ds.length - (i + 1), by omega, rfl, hlt, n⟩, fun x H' yl => ?_⟩
      obtain ⟨F2, d, s2, ed, r⟩ := y.yld i F H x H' up fi.sub hlt yl
      have e : ds.drop i = d :: ds.drop (i + 1) := by
        obtain ⟨h, e'⟩ := List.getElem?_eq_some_iff.mp ed
        rw [← e']
        exact List.drop_eq_getElem_cons h
      rw [e] at fl
      simp only [forE] at fl
      cases q1 : b d ev with
      | none => rw [q1] at fl; exact fl.elim
      | some ev1 =>
        rw [q1] at fl
        dsimp only at fl
        refine ⟨F2, ev, d, ev1, fi.later s2, r, q1, fun H'' σ' hH fi' => ?_⟩
        subst hH
        refine ⟨F2, ev1, fi', ?_⟩
        have fl2 := FlowTo.mono fl s2.up
        cases q2 : body ev1 with
        | nx ev2 => rw [q2] at fl2; exact fun F' H' σ' s' fi'' => ⟨F', ev2, fi'', (up.trans s2.up).trans s', FlowTo.mono fl2 s'⟩
        | ct ev2 => rw [q2] at fl2; exact fun F' H' σ' s' fi'' => ⟨F', ev2, fi'', (up.trans s2.up).trans s', FlowTo.mono fl2 s'⟩
        | bk ev2 => rw [q2] at fl2; exact fl2
        | rt k d => rw [q2] at fl2; exact fl2
        | ex C => rw [q2] at fl2; exact fl2
        | no => rw [q2] at fl2; exact fl2
    · have e : i = ds.length := by omega
      subst e
      rw [List.drop_length] at fl
      exact .inl ⟨y.stop _ H sH (Nat.le_refl _), fl F H σ (.refl _) fi⟩

def itR : R → RI
  | .ok .bo _ => .no
  | .ok _ (.lst ds) => .ok ds
  | .ok _ (.scr ds) => .ok ds
  | .ex C => .ex C
  | _ => .no
def itT : R → RI
  | .ok .fz (.tup ds) => .ok ds
  | .ex C => .ex C
  | _ => .no
theorem yields_list {a : Addr} {vs : List V} {ds : List D} (h : SqL K F a vs) (r : Reps K F ds vs) : Yields K F (Itl K a) ds where
  go := fun i H s hi => ⟨vs, vs[i]'(by rw [← r.length]; exact hi), Same.seq s h, by simp [← r.length, hi]⟩
  stop := fun i H s hi => ⟨vs, Same.seq s h, by rw [← r.length]; exact hi⟩
  yld := fun i F1 H x H' s1 s2 hi y => by
    obtain ⟨rfl, y⟩ := y
    have e := y vs (Same.seq (s1.trans s2) h)
    obtain ⟨d, ed⟩ : ∃ d, ds[i]? = some d := ⟨ds[i], by simp [hi]⟩
    obtain ⟨v, ev, rv⟩ := r.get ed
    rw [e] at ev
    cases ev
    exact ⟨F1, d, .refl s2, ed, rv.mono s1⟩
def rangeD (lo : Int) (n : Nat) : List D := (List.range n).map fun (i : Nat) => .int (lo + i)
theorem yields_range {lo : Int} {n : Nat} : Yields K F (Itr lo n) (rangeD lo n) where
  go := fun i H s hi => by show i < n; simpa [rangeD] using hi
  stop := fun i H s hi => by show n ≤ i; simpa [rangeD] using hi
  yld := fun i F1 H x H' s1 s2 hi y => by
    obtain ⟨rfl, rfl⟩ := y
    have hi : i < n := by simpa [rangeD] using hi
    exact ⟨F1, .int (lo + i), .refl s2, by simp [rangeD, hi], by rw [Rep]⟩
theorem iList_of {f : Ev → R} {Q : It → Hp → Prop} (h : tVI K F0 H0 Ψ (fun ev => itR (f ev)) σ H Q) : iList K (tV K F0 H0 Ψ f) σ H Q := by
  obtain ⟨F, ev, fi, m⟩ := h
  dsimp only at m
  refine ⟨F, ev, fi, ?_⟩
  cases h1 : f ev with
  | no => rw [h1] at m; exact m
  | ex C => rw [h1] at m; exact m
  | ok k d =>
    rw [h1] at m
    intro F1 v H1 p
    have go : ∀ F2, Post K F H .fz d F2 v H1 → (∀ ds, itR (.ok .fz d) = .ok ds → ∀ F' H' J, Step F H F' H' → Yields K F' J ds → Q J H') → (∀ ds, d = .lst ds ∨ d = .scr ds → ∃ a, v = .ref a ∧ (∃ xs, SqL K H1 a xs) ∧ Q (Itl K a) H1) := fun F2 p2 m ds hd => by
      rcases hd with rfl | rfl
      · have r := p2.val
        rw [Val, Rep] at r
        obtain ⟨a, vs, e1, e2, e3⟩ := r
        exact ⟨a, e1, ⟨vs, SqL.of (p2.st.sub _ _ e2)⟩, m ds rfl F2 H1 _ p2.st (yields_list (SqL.of e2) e3)⟩
      · have r := p2.val
        rw [Val, Rep] at r
        obtain ⟨a, vs, e1, e2, e3⟩ := r
        exact ⟨a, e1, ⟨vs, Same.seq p2.st.sub e2⟩, m ds rfl F2 H1 _ p2.st (yields_list e2 e3)⟩
    cases k with
    | bo => cases d <;> exact m.elim
    | fz =>
      cases d with
      | lst ds => exact go F1 p (fun ds' e => by cases e; exact m) ds (.inl rfl)
      | scr ds => exact go F1 p (fun ds' e => by cases e; exact m) ds (.inr rfl)
      | _ => exact m.elim
    | ow =>
      obtain ⟨F2, p2⟩ := p.frz
      cases d with
      | lst ds => exact go F2 p2 (fun ds' e => by cases e; exact m) ds (.inl rfl)
      | scr ds => exact go F2 p2 (fun ds' e => by cases e; exact m) ds (.inr rfl)
      | _ => exact m.elim
def rng1R : RA → RI
  | .ok [(_, .int j)] => if -(2 ^ 62) ≤ j ∧ j < 2 ^ 62 then .ok (rangeD 0 j.toNat) else .no
  | .ex C => .ex C
  | _ => .no
def rng2R : RA → RI
  | .ok [(_, .int i), (_, .int j)] => if -(2 ^ 62) ≤ i ∧ i < 2 ^ 62 ∧ -(2 ^ 62) ≤ j ∧ j < 2 ^ 62 then .ok (rangeD i (j - i).toNat) else .no
  | .ex C => .ex C
  | _ => .no
theorem iRng2_of {f : Ev → RA} {Q : It → Hp → Prop} (h : tVI K F0 H0 Ψ (fun ev => rng2R (f ev)) σ H Q) : iRng2 (tVA K F0 H0 Ψ f) σ H Q := by
  obtain ⟨F, ev, fi, m⟩ := h
  dsimp only at m
  refine ⟨F, ev, fi, ?_⟩
  unfold rng2R at m
  cases h1 : f ev with
  | no => rw [h1] at m; exact m
  | ex C => rw [h1] at m; exact m
  | ok l =>
    rw [h1] at m
    intro F1 vs H1 s va
    split at m
    · rename_i ds hm
      split at hm
      · rename_i k1 i k2 j he
        cases he
        split at hm
        · rename_i hb
          cases hm
          obtain ⟨v, r, rfl, _, hv, hr⟩ := va
          obtain ⟨v2, r2, rfl, _, hv2, hr2⟩ := hr
          obtain rfl : r2 = [] := hr2
          exact ⟨i, j, by rw [hv.rd.int, hv2.rd.int], hb, m F1 H1 _ s yields_range⟩
        · cases hm
      · rename_i he; cases he
      · cases hm
    · rename_i C hm
      split at hm
      · split at hm <;> cases hm
      · rename_i he; cases he
      · cases hm
    · exact m.elim

theorem FI.mut {i : Nat} {d d' : D} {a : Addr} {o : HO} (f : FI K F0 H0 F H ev σ) (e : ev[i]? = some (some (.ow, d))) (hs : σ[i]? = some (some (.ref a))) (c : ∀ H2, H2 a = some o → Cell K F H2 a d') :
    FI K F0 H0 F (upd H a o) (ev.set i (some (.ow, d'))) σ := by
  obtain ⟨_, v, e1, b, hb, h1, h2, h3⟩ := f.at_ i _ _ e
  rw [hs] at e1
  have : V.ref a = v := by simpa using e1
  subst this
  cases hb
  have hie : i < ev.length := (List.getElem?_eq_some_iff.mp e).1
  have ne : ∀ {G : Hp}, G a = none → Same G H → Same G (upd H a o) := fun {G} n s b u q => by
    rw [upd_ne]; exact s b u q
    rintro rfl; rw [n] at q; cases q
  have own : ∀ {m : Nat} {x : D}, (ev.set i (some (Kd.ow, d')))[m]? = some (some (.ow, x)) → ∃ y, ev[m]? = some (some (.ow, y)) := fun {m x} q => by
    by_cases hm : i = m
    · subst hm; exact ⟨d, e⟩
    · rw [List.getElem?_set_ne hm] at q; exact ⟨x, q⟩
  refine ⟨⟨f.st.up, ne h2 f.sub, ne h1 f.st.keep, f.st.new⟩, fun j k d2 q => ?_, fun j l d1 d2 hjl e1 e2 => ?_, by simpa using f.len⟩
  · by_cases hj : i = j
    · subst hj
      rw [List.getElem?_set_self hie] at q
      cases q
      exact ⟨by simp, _, hs, a, rfl, h1, h2, c _ upd_same⟩
    · rw [List.getElem?_set_ne hj] at q
      obtain ⟨n, u, e3, hu⟩ := f.at_ j k d2 q
      refine ⟨n, u, e3, ?_⟩
      cases k with
      | bo => exact absurd rfl n
      | fz => exact hu
      | ow =>
        obtain ⟨b, rfl, g1, g2, g3⟩ := hu
        have hba : b ≠ a := by
          rintro rfl
          exact f.apart i j d d2 hj e q (by rw [hs, e3])
        exact ⟨b, rfl, g1, g2, g3.mono (.refl _) fun o' z => by rw [upd_ne hba]; exact z⟩
  · obtain ⟨y1, z1⟩ := own e1
    obtain ⟨y2, z2⟩ := own e2
    exact f.apart j l y1 y2 hjl z1 z2
end
end L3
set_option Elab.async false
set_option linter.all false
set_option maxRecDepth 100000
namespace L3
open PySem L2
def addD : G2
  | .int i, .int j => some (.fz, .int (i + j))
  | .lst xs, .lst ys => if xs.length + ys.length ≤ LIM then some (.ow, .lst (xs ++ ys)) else none
  | .str x, .str y => if x.length + y.length ≤ LIM then some (.fz, .str (x ++ y)) else none
  | _, _ => none
def subD : G2
  | .int i, .int j => some (.fz, .int (i - j))
  | _, _ => none
def mulL : G2
  | .int i, .int j => if (-(2 ^ 64) < i ∧ i < 2 ^ 64) ∨ (-(2 ^ 64) < j ∧ j < 2 ^ 64) then some (.fz, .int (i * j)) else none
  | .lst xs, .int k => if -(2 ^ 63) ≤ k ∧ k < 2 ^ 63 ∧ xs.length * k.toNat ≤ LIM then some (.ow, .lst (List.replicate k.toNat xs).flatten) else none
  | _, _ => none
def fdivD : G2
  | .int i, .int j => if 0 < j ∧ j < 2 ^ 200 then some (.fz, .int (i / j)) else none
  | _, _ => none
def modD : G2
  | .int i, .int j => if 0 < j then some (.fz, .int (i % j)) else none
  | _, _ => none
def powD : G2
  | .int i, .int j => if 0 ≤ j ∧ j ≤ 1000000 ∧ i.natAbs < 2 ^ 64 then some (.fz, .int (i ^ j.toNat)) else none
  | _, _ => none
def ltD : G2
  | .int i, .int j => some (.fz, .bl (decide (i < j)))
  | _, _ => none
def leD : G2
  | .int i, .int j => some (.fz, .bl (decide (i ≤ j)))
  | _, _ => none
def gtD : G2
  | .int i, .int j => some (.fz, .bl (decide (j < i)))
  | _, _ => none
def geD : G2
  | .int i, .int j => some (.fz, .bl (decide (j ≤ i)))
  | _, _ => none
def isND : G2
  | .non, .non => some (.fz, .bl true)
  | _, .non => some (.fz, .bl false)
  | _, _ => none
def notND : G2
  | .non, .non => some (.fz, .bl false)
  | _, .non => some (.fz, .bl true)
  | _, _ => none
def idxL : G2
  | .lst xs, .int i => (atI xs i).map fun d => (.fz, d)
  | .scr xs, .int i => (atI xs i).map fun d => (.fz, d)
  | .tup xs, .int i => (atI xs i).map fun d => (.fz, d)
  | _, _ => none

section
variable {K : PySem.W.Frag} {X : Cx}
abbrev rAdd3 : R2 := fun x y H Q => rI0 (fun i j => .int (i + j)) x y H Q ∨ (rCat x y H Q ∨ ∃ i j, x = .str i ∧ y = .str j ∧ i.length + j.length ≤ sizeLine ∧ Q (.str (i ++ j)) H)
theorem op_add3 : OpR X (binaryOp .Add) rAdd3 := op_add.or (op_cat.or op_add_str)
theorem lim_le {n : Nat} (h : n ≤ LIM) : n ≤ sizeLine := Nat.le_trans h sizeLine_ge
theorem ok_add : OkOp K rAdd3 addD := by
  intro F H dx dy x y k d Q s rx ry e q
  unfold addD at e
  split at e <;> first | (cases e; done) | skip
  · rename_i i j
    cases e
    exact .inl ⟨i, j, rx.int, ry.int, q F _ H (.pure (.refl s) (by rw [Rep]))⟩
  rotate_left
  · rename_i i j
    split at e
    · rename_i hl
      cases e
      exact .inr (.inr ⟨i, j, rx.str, ry.str, lim_le hl, q F _ H (.pure (.refl s) (by rw [Rep]))⟩)
    · cases e
  · rename_i xs ys
    split at e
    · rename_i hl
      cases e
      obtain ⟨a, vs, rfl, h1, h2⟩ := rx.lst s
      obtain ⟨b, us, rfl, g1, g2⟩ := ry.lst s
      refine .inr (.inl ⟨a, b, vs, us, rfl, rfl, h1, g1, by rw [← h2.length, ← g2.length]; exact lim_le hl, fun p hp => ?_⟩)
      exact q F _ _ (Post.own (.refl s) hp fun H2 e => ⟨_, e, h2.app g2⟩)
    · cases e
theorem ok_sub : OkOp K (rI0 fun i j => .int (i - j)) subD := by
  intro F H dx dy x y k d Q s rx ry e q
  unfold subD at e
  split at e <;> first | (cases e; done) | skip
  rename_i i j
  cases e
  exact ⟨i, j, rx.int, ry.int, q F _ H (.pure (.refl s) (by rw [Rep]))⟩
abbrev rMul2 : R2 := fun x y H Q => rI CMul (fun i j => .int (i * j)) x y H Q ∨ rRep x y H Q
theorem op_mul2 : OpR X (binaryOp .Mult) rMul2 := op_mul.or op_rep
theorem ok_mulL : OkOp K rMul2 mulL := by
  intro F H dx dy x y k d Q s rx ry e q
  unfold mulL at e
  split at e <;> first | (cases e; done) | skip
  · rename_i i j
    split at e
    · rename_i hc
      cases e
      exact .inl ⟨i, j, rx.int, ry.int, hc, q F _ H (.pure (.refl s) (by rw [Rep]))⟩
    · cases e
  · rename_i xs j
    split at e
    · rename_i hc
      cases e
      obtain ⟨a, vs, rfl, h1, h2⟩ := rx.lst s
      refine .inr ⟨a, j, vs, rfl, ry.int, h1, hc.1, hc.2.1, by rw [← h2.length]; exact lim_le hc.2.2, fun p hp => ?_⟩
      exact q F _ _ (Post.own (.refl s) hp fun H2 e => ⟨_, e, h2.rep _⟩)
    · cases e
def CDivW (i j : Int) : Prop := 0 < j ∧ j < 2 ^ 200
theorem op_fdivW {X : Cx} : OpR X (binaryOp .FloorDiv) (rI CDivW fun i j => .int (i / j)) := opI fun i j _ _ _ _ _ hc q => by
  have h1 : (0 : Int) < j := hc.1
  have h2 : j < 2 ^ 200 := hc.2
  refine PyProof.Rows.floordiv_int (by omega) (by rw [Int.fdiv_eq_ediv_of_nonneg i (by omega)]; exact q) (.inl (PyProof.noPylong_of_log2 ?_))
  have h3 : j.natAbs < 2 ^ 200 := by omega
  have h4 : j.natAbs.log2 < 200 := (Nat.log2_lt (by omega)).2 h3
  omega
theorem ok_fdiv : OkOp K (rI CDivW fun i j => .int (i / j)) fdivD := by
  intro F H dx dy x y k d Q s rx ry e q
  unfold fdivD at e
  split at e <;> first | (cases e; done) | skip
  rename_i i j
  split at e
  · rename_i hc
    cases e
    exact ⟨i, j, rx.int, ry.int, hc, q F _ H (.pure (.refl s) (by rw [Rep]))⟩
  · cases e
theorem ok_mod : OkOp K (rI (fun _ j => 0 < j) fun i j => .int (i % j)) modD := by
  intro F H dx dy x y k d Q s rx ry e q
  unfold modD at e
  split at e <;> first | (cases e; done) | skip
  rename_i i j
  split at e
  · rename_i hc
    cases e
    exact ⟨i, j, rx.int, ry.int, hc, q F _ H (.pure (.refl s) (by rw [Rep]))⟩
  · cases e
theorem ok_pow : OkOp K (rI CPow fun i j => .int (i ^ j.toNat)) powD := by
  intro F H dx dy x y k d Q s rx ry e q
  unfold powD at e
  split at e <;> first | (cases e; done) | skip
  rename_i i j
  split at e
  · rename_i hc
    cases e
    exact ⟨i, j, rx.int, ry.int, hc, q F _ H (.pure (.refl s) (by rw [Rep]))⟩
  · cases e
theorem ok_lt : OkOp K (rI0 fun i j => .bl (decide (i < j))) ltD := by
  intro F H dx dy x y k d Q s rx ry e q
  unfold ltD at e
  split at e <;> first | (cases e; done) | skip
  rename_i i j
  cases e
  exact ⟨i, j, rx.int, ry.int, q F _ H (.pure (.refl s) (by rw [Rep]))⟩
theorem ok_le : OkOp K (rI0 fun i j => .bl (decide (i ≤ j))) leD := by
  intro F H dx dy x y k d Q s rx ry e q
  unfold leD at e
  split at e <;> first | (cases e; done) | skip
  rename_i i j
  cases e
  exact ⟨i, j, rx.int, ry.int, q F _ H (.pure (.refl s) (by rw [Rep]))⟩
theorem ok_gt : OkOp K (rI0 fun i j => .bl (decide (j < i))) gtD := by
  intro F H dx dy x y k d Q s rx ry e q
  unfold gtD at e
  split at e <;> first | (cases e; done) | skip
  rename_i i j
  cases e
  exact ⟨i, j, rx.int, ry.int, q F _ H (.pure (.refl s) (by rw [Rep]))⟩
theorem RdV.isn {F H : Hp} {d : D} {v : V} (h : RdV K F H d v) : decide (v = .non) = (match d with | .non => true | _ => false) := by
  rcases h with h | ⟨a, rfl, h⟩
  · cases d <;> rw [Rep] at h
    all_goals first
      | (subst h; rfl)
      | (obtain ⟨a, vs, rfl, _⟩ := h; rfl)
      | (obtain ⟨a, C, dx, vs, rfl, _⟩ := h; rfl)
  · cases d <;> first | rfl | exact h.elim
theorem ok_notN : OkOp K (fun x y H Q => y = .non ∧ Q (.bl (!decide (x = .non))) H) notND := by
  intro F H dx dy x y k d Q s rx ry e q
  have hn := rx.isn
  unfold notND at e
  split at e
  · cases e; exact ⟨ry.non, by rw [hn]; exact q F _ H (.pure (.refl s) (by rw [Rep]; rfl))⟩
  · rename_i h
    cases e
    refine ⟨ry.non, ?_⟩
    have : decide (x = .non) = false := by
      rw [hn]; split
      · exact (h rfl).elim
      · rfl
    rw [this]; exact q F _ H (.pure (.refl s) (by rw [Rep]; rfl))
  · cases e
theorem Reps.atI {F : Hp} {ds : List D} {vs : List V} {i : Int} {d : D} (r : Reps K F ds vs) (e : atI ds i = some d) : ∃ v, atI vs i = some v ∧ Rep K F d v := by
  unfold L2.atI at e ⊢
  rw [← r.length]
  cases q : ixN ds.length i with
  | none => rw [q] at e; cases e
  | some j => rw [q] at e; exact r.get e
theorem ok_idxL : OkOp K (rIx K) idxL := by
  intro F H dx dy x y k d Q s rx ry e q
  unfold idxL at e
  split at e <;> first | (cases e; done) | skip
  rotate_right
  · rename_i xs i
    obtain ⟨a, vs, rfl, h1, h2⟩ := rx.tup s
    cases q1 : atI xs i with
    | none => rw [q1] at e; cases e
    | some z =>
      rw [q1] at e; cases e
      obtain ⟨v, e1, rv⟩ := h2.atI q1
      exact .inr (.inl ⟨a, vs, i, v, rfl, ry.int, SqT.of h1, e1, q F _ H (.pure (.refl s) rv)⟩)
  · rename_i xs i
    obtain ⟨a, vs, rfl, h1, h2⟩ := rx.lst s
    cases q1 : atI xs i with
    | none => rw [q1] at e; cases e
    | some z =>
      rw [q1] at e; cases e
      obtain ⟨v, e1, rv⟩ := h2.atI q1
      exact .inl ⟨a, vs, i, v, rfl, ry.int, SqL.of h1, e1, q F _ H (.pure (.refl s) rv)⟩
  · rename_i xs i
    obtain ⟨a, vs, rfl, h1, h2⟩ := rx.scr s
    cases q1 : atI xs i with
    | none => rw [q1] at e; cases e
    | some z =>
      rw [q1] at e; cases e
      obtain ⟨v, e1, rv⟩ := h2.atI q1
      exact .inl ⟨a, vs, i, v, rfl, ry.int, h1, e1, q F _ H (.pure (.refl s) rv)⟩
end
def lenL : GN
  | [.lst xs] => some (.fz, .int xs.length)
  | [.scr xs] => some (.fz, .int xs.length)
  | [.tup xs] => some (.fz, .int xs.length)
  | _ => none
def min2D : GN
  | [.int i, .int j] => some (.fz, .int (if j < i then j else i))
  | _ => none
def max2D : GN
  | [.int i, .int j] => some (.fz, .int (if j > i then j else i))
  | _ => none
def listD : GN
  | [.lst xs] => some (.ow, .lst xs)
  | [.scr xs] => some (.ow, .lst xs)
  | [.tup xs] => some (.ow, .lst xs)
  | _ => none
section
variable {K : PySem.W.Frag} {X : Cx}
theorem ok_lenL : OkCall K (fun xs H Q => ∃ p ys, xs = [.ref p] ∧ (SqL K H p ys ∨ SqT K H p ys) ∧ Q (.int ys.length) H) lenL := by
  intro F H ds vs k d Q s r e q
  unfold lenL at e
  split at e
  · obtain ⟨v, _, rfl, rx, rfl⟩ := r
    cases e
    obtain ⟨a, us, rfl, h1, h2⟩ := rx.lst s
    exact ⟨a, us, rfl, .inl (SqL.of h1), q F _ H (.pure (.refl s) (by rw [Rep, h2.length]))⟩
  · obtain ⟨v, _, rfl, rx, rfl⟩ := r
    cases e
    obtain ⟨a, us, rfl, h1, h2⟩ := rx.scr s
    exact ⟨a, us, rfl, .inl h1, q F _ H (.pure (.refl s) (by rw [Rep, h2.length]))⟩
  · obtain ⟨v, _, rfl, rx, rfl⟩ := r
    cases e
    obtain ⟨a, us, rfl, h1, h2⟩ := rx.tup s
    exact ⟨a, us, rfl, .inr (SqT.of h1), q F _ H (.pure (.refl s) (by rw [Rep, h2.length]))⟩
  · cases e
theorem ok_min2 : OkCall K (fun xs H Q => ∃ i j, xs = [.int i, .int j] ∧ Q (.int (if j < i then j else i)) H) min2D := by
  intro F H ds vs k d Q s r e q
  unfold min2D at e
  split at e
  · rename_i i j
    obtain ⟨v, _, rfl, rx, u, _, rfl, ry, rfl⟩ := r
    cases e
    exact ⟨i, j, by rw [rx.int, ry.int], q F _ H (.pure (.refl s) (by rw [Rep]))⟩
  · cases e
theorem ok_max2 : OkCall K (fun xs H Q => ∃ i j, xs = [.int i, .int j] ∧ Q (.int (if j > i then j else i)) H) max2D := by
  intro F H ds vs k d Q s r e q
  unfold max2D at e
  split at e
  · rename_i i j
    obtain ⟨v, _, rfl, rx, u, _, rfl, ry, rfl⟩ := r
    cases e
    exact ⟨i, j, by rw [rx.int, ry.int], q F _ H (.pure (.refl s) (by rw [Rep]))⟩
  · cases e
theorem ok_list : OkCall K (fun xs H Q => ∃ p ys, xs = [.ref p] ∧ (SqL K H p ys ∨ SqT K H p ys) ∧ ∀ l, H l = none → Q (.ref l) (upd H l (.lst ys))) listD := by
  intro F H ds vs k d Q s r e q
  unfold listD at e
  split at e
  · obtain ⟨v, _, rfl, rx, rfl⟩ := r
    cases e
    obtain ⟨a, us, rfl, h1, h2⟩ := rx.lst s
    exact ⟨a, us, rfl, .inl (SqL.of h1), fun l hl => q F _ _ (Post.own (.refl s) hl fun H2 e => ⟨_, e, h2⟩)⟩
  · obtain ⟨v, _, rfl, rx, rfl⟩ := r
    cases e
    obtain ⟨a, us, rfl, h1, h2⟩ := rx.scr s
    exact ⟨a, us, rfl, .inl h1, fun l hl => q F _ _ (Post.own (.refl s) hl fun H2 e => ⟨_, e, h2⟩)⟩
  · obtain ⟨v, _, rfl, rx, rfl⟩ := r
    cases e
    obtain ⟨a, us, rfl, h1, h2⟩ := rx.tup s
    exact ⟨a, us, rfl, .inr (SqT.of h1), fun l hl => q F _ _ (Post.own (.refl s) hl fun H2 e => ⟨_, e, h2⟩)⟩
  · cases e
end
end L3
set_option Elab.async false
set_option linter.all false
set_option maxRecDepth 100000
namespace L3
open PySem L2
def eOp (g : G2) (f1 f2 : Ev → R) (ev : Ev) : R := op2 g (f1 ev) (f2 ev)
def eAnd (f g : Ev → R) (ev : Ev) : R := andR (f ev) (g ev)
def eOr (f g : Ev → R) (ev : Ev) : R := orR (f ev) (g ev)
def eNot (f : Ev → R) (ev : Ev) : R := notR (f ev)
def eIf (c f g : Ev → R) (ev : Ev) : R := ifR (c ev) (f ev) (g ev)
def aNil (_ : Ev) : RA := .ok []
def aCons (f : Ev → R) (fs : Ev → RA) (ev : Ev) : RA := consA (f ev) (fs ev)
def eTup (fs : Ev → RA) (ev : Ev) : R := tupR (fs ev)
def eLst (fs : Ev → RA) (ev : Ev) : R := lstR (fs ev)
def eCall (g : GN) (fs : Ev → RA) (ev : Ev) : R := callR g (fs ev)
def iLst (f : Ev → R) (ev : Ev) : RI := itR (f ev)
def iTupl (f : Ev → R) (ev : Ev) : RI := itT (f ev)
def iRange1 (f : Ev → RA) (ev : Ev) : RI := rng1R (f ev)
def iRange2 (f : Ev → RA) (ev : Ev) : RI := rng2R (f ev)
def scalD : D → Bool
  | .non => true
  | .bl _ => true
  | .int _ => true
  | .str _ => true
  | _ => false
def fnR (n : Nat) (φ : List D → R) : RA → R
  | .ok l => if l.length = n then (match allFz l with
    | some ds => match φ ds with
      | .ok .fz d => .ok .fz d
      | .ok .ow d => .ok .ow d
      | _ => .no
    | none => match φ (l.map (·.2)) with
      | .ok .bo _ => .no
      | .ok _ d => if scalD d then .ok .fz d else .no
      | _ => .no) else .no
  | .ex C => .ex C
  | .no => .no
def eFn (n : Nat) (φ : List D → R) (fs : Ev → RA) (ev : Ev) : R := fnR n φ (fs ev)
def ev0 (n : Nat) (ds : List D) : Ev := ds.map (fun d => some (.fz, d)) ++ List.replicate n none
def runF (n : Nat) (g : Ev → Fl) (ds : List D) : R := match g (ev0 n ds) with
  | .rt .bo _ => .no
  | .rt k d => .ok k d
  | .nx _ => .ok .fz .non
  | .ex C => .ex C
  | _ => .no
def appG (i : Nat) (f : Ev → R) (ev : Ev) : Fl := match ev[i]? with
  | some (some (.ow, .lst ds)) => match f ev with
    | .ok .bo _ => .no
    | .ok _ d => if ds.length < LIM then .nx (ev.set i (some (.ow, .lst (ds ++ [d])))) else .no
    | .ex C => .ex C
    | .no => .no
  | _ => .no
def setLG (i : Nat) (f v : Ev → R) (ev : Ev) : Fl := match v ev with
  | .ok .bo _ => .no
  | .ok _ d => match ev[i]? with
    | some (some (.ow, .lst ds)) => match f ev with
      | .ok _ (.int k) => match ixN ds.length k with
        | some j => .nx (ev.set i (some (.ow, .lst (ds.set j d))))
        | none => .no
      | .ex C => .ex C
      | _ => .no
    | _ => .no
  | .ex C => .ex C
  | .no => .no
def frzG (i : Nat) (g : Ev → Fl) (ev : Ev) : Fl := g (frzEv i ev)
def clearG (i : Nat) (ev : Ev) : Fl := match ev[i]? with
  | some (some (.ow, .lst _)) => .nx (ev.set i (some (.ow, .lst [])))
  | _ => .no

section
variable {X : Cx} {F0 H0 : Hp} {Ψ : Psi} {a b c e : Expr} {es : List Expr} {f f1 f2 f3 : Ev → R} {fs : Ev → RA} {pos : Pos}
theorem v_var (i : Nat) {x : Str} (hN : X.N[i]? = some x := by rfl) (hv : Vis X.env.scope x := by first | exact Or.inl rfl | exact Or.inr (Or.inl rfl) | exact Or.inr (Or.inr rfl)) (hd : (x == ("__debug__" : Str)) = false := by decide)
    (hcd : (x == ("__classdict__" : Str)) = false := by decide) : VE X F0 H0 Ψ (.Name x pos) (varR i) := (pe_var hN hv hd hcd).mono fun _ _ _ h => tVar_of h
theorem v_int {i j} : VE X F0 H0 Ψ (.Constant (.int i) j pos) (conR (.int i)) := pe_int.mono fun _ _ _ h => tC_of (by rw [Rep]) h
theorem v_bl {i j} : VE X F0 H0 Ψ (.Constant (.bool i) j pos) (conR (.bl i)) := pe_bl.mono fun _ _ _ h => tC_of (by rw [Rep]) h
theorem v_non {j} : VE X F0 H0 Ψ (.Constant .none j pos) (conR .non) := pe_non.mono fun _ _ _ h => tC_of (by rw [Rep]) h
theorem v_bin {op : Operator} {r : R2} {g : G2} (ho : OpR X (binaryOp op) r) (hg : OkOp X.K r g) (ha : VE X F0 H0 Ψ a f1) (hb : VE X F0 H0 Ψ b f2) : VE X F0 H0 Ψ (.BinOp a op b pos) (eOp g f1 f2) := (pe_op ho ha hb).mono fun _ _ _ h => tOp_of hg h
theorem v_add (ha : VE X F0 H0 Ψ a f1) (hb : VE X F0 H0 Ψ b f2) : VE X F0 H0 Ψ (.BinOp a .Add b pos) (eOp addD f1 f2) := v_bin op_add3 ok_add ha hb
theorem v_sub (ha : VE X F0 H0 Ψ a f1) (hb : VE X F0 H0 Ψ b f2) : VE X F0 H0 Ψ (.BinOp a .Sub b pos) (eOp subD f1 f2) := v_bin op_sub ok_sub ha hb
theorem v_fdiv (ha : VE X F0 H0 Ψ a f1) (hb : VE X F0 H0 Ψ b f2) : VE X F0 H0 Ψ (.BinOp a .FloorDiv b pos) (eOp fdivD f1 f2) := v_bin op_fdivW ok_fdiv ha hb
theorem v_mod (ha : VE X F0 H0 Ψ a f1) (hb : VE X F0 H0 Ψ b f2) : VE X F0 H0 Ψ (.BinOp a .Mod b pos) (eOp modD f1 f2) := v_bin op_mod ok_mod ha hb
theorem v_pow (ha : VE X F0 H0 Ψ a f1) (hb : VE X F0 H0 Ψ b f2) : VE X F0 H0 Ψ (.BinOp a .Pow b pos) (eOp powD f1 f2) := v_bin op_pow ok_pow ha hb
def CmpOk (X : Cx) (op : CmpOp) (g : G2) : Prop := ∃ r : R2, OpR X (compareOp op) r ∧ OkOp X.K r g
theorem c_lt : CmpOk X .Lt ltD := ⟨_, op_lt, ok_lt⟩
theorem c_le : CmpOk X .LtE leD := ⟨_, op_le, ok_le⟩
theorem c_gt : CmpOk X .Gt gtD := ⟨_, op_gt, ok_gt⟩
theorem c_notN : CmpOk X .IsNot notND := ⟨_, op_notN, ok_notN⟩
theorem v_cmp {op : CmpOp} {g : G2} (hc : CmpOk X op g) (ha : VE X F0 H0 Ψ a f1) (hb : VE X F0 H0 Ψ b f2) (hm : behindInMarks op b = false := by first | exact nomark _ | rfl) : VE X F0 H0 Ψ (.Compare a [op] [b] pos) (eOp g f1 f2) := let ⟨_, ho, hg⟩ := hc; (pe_cmpR ho ha hb hm).mono fun _ _ _ h => tOp_of hg h
theorem vt_cmp {op : CmpOp} {g : G2} (hc : CmpOk X op g) (ha : VE X F0 H0 Ψ a f1) (hb : VE X F0 H0 Ψ b f2) (hm : behindInMarks op b = false := by first | exact nomark _ | rfl) : VT X F0 H0 Ψ (.Compare a [op] [b] pos) (eOp g f1 f2) :=
  let ⟨_, ho, hg⟩ := hc; (pt_cmpR ho ha hb hm).mono fun σ H Q h => by
    obtain ⟨F, ev, fi, m⟩ := h
    exact tOp_of (K := X.K) (F0 := F0) (H0 := H0) (Ψ := Ψ) (f1 := f1) (f2 := f2) hg (Q := fun x H' => ∃ k, x = .bl k ∧ Q k H') (by
      refine ⟨F, ev, fi, ?_⟩
      show match eOp g f1 f2 ev with
        | .ok k d => ∀ F' v H', Post X.K F H k d F' v H' → ∃ k, v = .bl k ∧ Q k H'
        | .ex C => ∀ F' H', Step F0 H0 F' H' → Ψ C H'
        | .no => False
      cases q : eOp g f1 f2 ev with
      | no => rw [q] at m; exact m
      | ex C => rw [q] at m; exact m
      | ok k d =>
        rw [q] at m
        intro F' v H' p
        cases d with
        | bl b => exact ⟨b, p.val.rd.bl, m F' H' p.st⟩
        | _ => exact m.elim)
theorem vt_val (h : VE X F0 H0 Ψ e f) (he : ∀ whole, isTrue e X.env whole = (do let v ← whole; standAt e.pos; holding [v] (truthy v)) := by intro _; rfl) : VT X F0 H0 Ψ e f := (pt_val h he).mono fun _ _ _ q => tB_of q
theorem vw_and1 (h : VT X F0 H0 Ψ a f) : VW X F0 H0 Ψ (.BoolOp .And [a] pos) f := pw_and1 h
theorem vw_or1 (h : VT X F0 H0 Ψ a f) : VW X F0 H0 Ψ (.BoolOp .Or [a] pos) f := pw_or1 h
theorem vw_and {rest : List Expr} (ha : VT X F0 H0 Ψ a f1) (hb : VW X F0 H0 Ψ (.BoolOp .And (b :: rest) pos) f2) : VW X F0 H0 Ψ (.BoolOp .And (a :: b :: rest) pos) (eAnd f1 f2) := (pw_and ha hb).mono fun _ _ _ q => tAnd_of q
theorem vw_or {rest : List Expr} (ha : VT X F0 H0 Ψ a f1) (hb : VW X F0 H0 Ψ (.BoolOp .Or (b :: rest) pos) f2) : VW X F0 H0 Ψ (.BoolOp .Or (a :: b :: rest) pos) (eOr f1 f2) := (pw_or ha hb).mono fun _ _ _ q => tOr_of q
theorem vt_w (h : VW X F0 H0 Ψ e f) : VT X F0 H0 Ψ e f := PW.pt h
theorem vt_not (h : VT X F0 H0 Ψ a f) : VT X F0 H0 Ψ (.UnaryOp .Not a pos) (eNot f) := (pt_not h).mono fun _ _ _ q => tNot_of q
theorem v_one {op} (h : VE X F0 H0 Ψ a f) : VE X F0 H0 Ψ (.BoolOp op [a] pos) f := pe_one h
theorem v_and {rest : List Expr} (ha : VE X F0 H0 Ψ a f1) (hb : VE X F0 H0 Ψ (.BoolOp .And (b :: rest) pos) f2) : VE X F0 H0 Ψ (.BoolOp .And (a :: b :: rest) pos) (eAnd f1 f2) := (pe_and ha hb).mono fun _ _ _ q => tAndV_of q
theorem va_nil : VA X F0 H0 Ψ [] aNil := pa_nil.mono fun _ _ _ q => tNil_of q
theorem va_cons (ha : VE X F0 H0 Ψ e f) (hr : VA X F0 H0 Ψ es fs) (hs : starEach (e :: es) X.env = (false, eval e X.env) :: starEach es X.env := by rfl) : VA X F0 H0 Ψ (e :: es) (aCons f fs) := (pa_cons ha hr hs).mono fun _ _ _ q => tCons_of q
theorem v_tup {x1} (h : VA X F0 H0 Ψ es fs) : VE X F0 H0 Ψ (.Tuple es x1 pos) (eTup fs) := (pe_tup h).mono fun _ _ _ q => tTup_of q
theorem v_lst (h : VA X F0 H0 Ψ es fs) : VE X F0 H0 Ψ (.List es pos) (eLst fs) := (pe_lst h).mono fun _ _ _ q => tLst_of q
theorem v_callB {x : Str} {p : Pos} {id : String} {r : List V → Hp → VK → Prop} {g : GN} (hc : CallR X (.builtin id) r) (hg : OkCall X.K r g) (hm : X.mg x = none) (hv : bootBuiltins x = some (.builtin id)) (ha : VA X F0 H0 Ψ (e :: es) fs) (hgl : Gl X x := by rfl)
    (hn : x ≠ "__name__" := by decide) (hdb : (x == ("__debug__" : Str)) = false := by decide)
    (he : starEach (e :: es) X.env = (false, eval e X.env) :: starEach es X.env := by rfl) (hpl : (backTo pos (starEach es X.env)).any (·.1) = false := by rfl) : VE X F0 H0 Ψ (.Call (.Name x p) (e :: es) [] pos) (eCall g fs) := (pe_callB hc hgl hm hv ha hn hdb he hpl).mono fun _ _ _ q => tCB_of hg q
theorem v_callT {x : Str} {p : Pos} {T : String} {r : List V → Hp → VK → Prop} {g : GN} (hc : CallR X (.type T) r) (hg : OkCall X.K r g) (hm : X.mg x = none) (hv : bootBuiltins x = some (.type T)) (ha : VA X F0 H0 Ψ (e :: es) fs) (hgl : Gl X x := by rfl)
    (hn : x ≠ "__name__" := by decide) (hdb : (x == ("__debug__" : Str)) = false := by decide)
    (he : starEach (e :: es) X.env = (false, eval e X.env) :: starEach es X.env := by rfl) (hpl : (backTo pos (starEach es X.env)).any (·.1) = false := by rfl) : VE X F0 H0 Ψ (.Call (.Name x p) (e :: es) [] pos) (eCall g fs) := (pe_callTy hc hgl hm hv ha hn hdb he hpl).mono fun _ _ _ q => tCB_of hg q
theorem v_lenL {p : Pos} (hm : X.mg "len" = none) (ha : VA X F0 H0 Ψ [e] fs) (hgl : Gl X "len" := by rfl) (he : starEach [e] X.env = (false, eval e X.env) :: starEach [] X.env := by rfl) : VE X F0 H0 Ψ (.Call (.Name "len" p) [e] [] pos) (eCall lenL fs) := v_callB call_len_seq ok_lenL hm PySem.boot_len ha hgl (by decide) (by decide) he
theorem v_list {p : Pos} (hm : X.mg "list" = none) (ha : VA X F0 H0 Ψ [e] fs) (hgl : Gl X "list" := by rfl) (he : starEach [e] X.env = (false, eval e X.env) :: starEach [] X.env := by rfl) : VE X F0 H0 Ψ (.Call (.Name "list" p) [e] [] pos) (eCall listD fs) := v_callT call_list_of ok_list hm (by rfl) ha hgl (by decide) (by decide) he

variable {st : Stmt} {rest body orelse : List Stmt} {g h : Ev → Fl}
theorem vs_nil : VSs X F0 H0 Ψ [] .nx := pss_nil.mono fun _ _ _ q => tNext_of q
theorem vs_cons (h1 : VS X F0 H0 Ψ st g) (h2 : VSs X F0 H0 Ψ rest h) : VSs X F0 H0 Ψ (st :: rest) (seqG g h) := (pss_cons h1 h2).mono fun _ _ _ q => tSeq_of q
theorem vs_one (h1 : VS X F0 H0 Ψ st g) : VSs X F0 H0 Ψ [st] g := pss_one h1
theorem vs_expr (he : VE X F0 H0 Ψ e f) (hs : swapsWith e none pos.line X.env = pure false := by rfl) : VS X F0 H0 Ψ (.Expr e pos) (dropG f) := (ps_expr he hs).mono fun _ _ _ q => tDrop_of q
theorem vs_ret (he : VE X F0 H0 Ψ e f) : VS X F0 H0 Ψ (.Return (some e) pos) (retG f) := (ps_ret he).mono fun _ _ _ q => tRet_of q
theorem vs_if (hc : VT X F0 H0 Ψ c f) (ha : VSs X F0 H0 Ψ body g) (hb : VSs X F0 H0 Ψ orelse h) : VS X F0 H0 Ψ (.If c body orelse pos) (ifG f g h) := (ps_if hc ha hb).mono fun _ _ _ q => tIfS_of q
theorem vs_set (i : Nat) {x : Str} {pos' : Pos} (hN : X.N.Nodup) (he : VE X F0 H0 Ψ e f) (hi : X.N[i]? = some x := by rfl) (hx : Loc X.env.scope x := by first | exact Or.inl rfl | exact Or.inr rfl) (hs : swapsWith e (some (.Name x pos')) pos.line X.env = pure false := by rfl)
    (hf : X.fn x = true ∨ X.env.scope.names.lookup x = some .local := by first | exact .inl rfl | exact .inr rfl) : VS X F0 H0 Ψ (.Assign [.Name x pos'] e pos) (setG i f) := (ps_set hN hi hx he hs hf).mono fun _ _ _ q => tSet_of q
def VG (X : Cx) (F0 H0 : Hp) (t : Expr) (b : B1) : Prop := PG X t (gV X.K F0 H0 b)
def VGs (X : Cx) (F0 H0 : Hp) (ts : List Expr) (b : BN) : Prop := PGs X ts (gVs X.K F0 H0 b)
theorem vg_name (i : Nat) {x : Str} (hN : X.N.Nodup) (hi : X.N[i]? = some x := by rfl) (hx : Loc X.env.scope x := by first | exact Or.inl rfl | exact Or.inr rfl)
    (hf : X.fn x = true ∨ X.env.scope.names.lookup x = some .local := by first | exact .inl rfl | exact .inr rfl) : VG X F0 H0 (.Name x pos) (bName i) := (pg_name hN hi hx hf).mono fun _ _ _ _ q => gName_of q
theorem vg_nil : VGs X F0 H0 [] bNil := pgs_nil.mono fun _ _ _ _ q => gNil_of q
theorem vg_cons {t : Expr} {ts : List Expr} {b1 : B1} {bn : BN} (h1 : VG X F0 H0 t b1) (h2 : VGs X F0 H0 ts bn) (hs : (assignEach (t :: ts) X.env).map (·.2) = assign t X.env :: (assignEach ts X.env).map (·.2) := by rfl) : VGs X F0 H0 (t :: ts) (bCons b1 bn) := (pgs_cons h1 h2 hs).mono fun _ _ _ _ q => gCons_of q
theorem vg_tup {ts : List Expr} {k n : Nat} {bn : BN} (hc : X.calm = true) (h : VGs X F0 H0 ts bn) (hn : (assignEach ts X.env).length = n := by rfl) (hst : (assignEach ts X.env).findIdx? (·.1) = none := by rfl) : VG X F0 H0 (.Tuple ts k pos) (bTup n bn) := (pg_tup hc h hn hst).mono fun _ _ _ _ q => gTup_of q
theorem vs_asg {t : Expr} {b1 : B1} (he : VE X F0 H0 Ψ e f) (hg : VG X F0 H0 t b1) (hs : swapsWithSole [t] e pos.line X.env = pure false := by rfl) (hw : swappedStores [t] e X.env = pure none := by rfl)
    (h1 : (assignEach [t] X.env).map (·.2) = [assign t X.env] := by rfl) : VS X F0 H0 Ψ (.Assign [t] e pos) (asgG b1 f) := (ps_asg he hg hs hw h1).mono fun _ _ _ q => tAsg_of q
variable {tg iter : Expr} {fi : Ev → RI}
theorem vi_list (h : VE X F0 H0 Ψ e f) : VI X F0 H0 Ψ tg e (iLst f) := (pi_list h).mono fun _ _ _ q => iList_of q
theorem vi_range2 {p : Pos} (hm : X.mg "range" = none) (ha : VA X F0 H0 Ψ [a, b] fs) (hg : Gl X "range" := by rfl) (hs : starEach [a, b] X.env = [(false, eval a X.env), (false, eval b X.env)] := by rfl) (hs2 : starEach [b] X.env = [(false, eval b X.env)] := by rfl) : VI X F0 H0 Ψ tg (.Call (.Name "range" p) [a, b] [] pos) (iRange2 fs) := (pi_range2 hg hm ha hs hs2).mono fun _ _ _ q => iRng2_of q
theorem vs_for {b1 : B1} (hp : PassesOwn (model X.prog X.w) X.A X.env X.xe) (hc : X.calm = true) (hi : VI X F0 H0 Ψ tg iter fi) (hg : VG X F0 H0 tg b1) (hb : VSs X F0 H0 Ψ body g) (hs : ∀ x, foldedSetIterable iter X.env x = pure x := by intro _; rfl) :
    VS X F0 H0 Ψ (.For tg iter body [] pos) (forG fi b1 g) := (ps_for hp hc hi hg hb hs).mono fun _ _ _ q => tFor_of q
theorem vs_frz (i : Nat) {sts : List Stmt} (h : VSs X F0 H0 Ψ sts g) : VSs X F0 H0 Ψ sts (frzG i g) := h.mono fun E σ H q => by
  obtain ⟨F, ev, fi, m⟩ := q
  obtain ⟨F', s, fi'⟩ := fi.frz i
  exact ⟨F', frzEv i ev, fi', FlowTo.mono m s⟩
end
end L3
set_option Elab.async false
set_option linter.all false
set_option maxRecDepth 100000
namespace L3
open PySem L2
section
variable {X : Cx} {K : PySem.W.Frag} {F0 H0 F H F' H' : Hp} {Ψ : Psi} {σ : St} {ev : Ev}
theorem FI.ow {i : Nat} {ds : List D} (fi : FI K F0 H0 F H ev σ) (e : ev[i]? = some (some (.ow, .lst ds))) : ∃ a vs, σ[i]? = some (some (.ref a)) ∧ H a = some (.lst vs) ∧ Reps K F ds vs := by
  obtain ⟨_, v, e1, a, rfl, h1, h2, vs, h3, h4⟩ := fi.at_ i _ _ e
  exact ⟨a, vs, e1, h3, h4⟩
theorem tApp_of {i : Nat} {f : Ev → R} {E : Ends} (q : tSv K F0 H0 Ψ (appG i f) E σ H) : tDrop (tBM K "list" rAppend (tVar i) (tCons (tV K F0 H0 Ψ f) tNil)) E σ H := by
  obtain ⟨F, ev, fi, m⟩ := q
  unfold appG at m
  split at m
  · rename_i ds e
    obtain ⟨a, vs, e1, h1, h2⟩ := fi.ow e
    refine ⟨.ref a, e1, .inl ⟨rfl, vs, SqL.of h1⟩, F, ev, fi, ?_⟩
    cases h3 : f ev with
    | no => rw [h3] at m; exact m
    | ex C => rw [h3] at m; exact m
    | ok k d =>
      rw [h3] at m
      intro F1 y H1 p
      have go : ∀ F2, Post K F H .fz d F2 y H1 → FlowTo K F0 H0 Ψ F E (if ds.length < LIM then .nx (ev.set i (some (.ow, .lst (ds ++ [d])))) else .no) → rAppend (.ref a) [y] H1 fun _ H1 => E.nx σ H1 := fun F2 p2 m => by
        by_cases hl : ds.length < LIM
        · rw [if_pos hl] at m
          refine ⟨a, vs, y, rfl, rfl, p2.st.keep _ _ h1, by rw [← h2.length]; exact Nat.lt_of_lt_of_le hl sizeLine_ge, ?_⟩
          exact m F2 _ σ p2.st.up ((fi.later p2.st).mut e e1 fun H2 z => ⟨_, z, (h2.mono p2.st.up).app (.cons p2.val .nil)⟩)
        · rw [if_neg hl] at m; exact m.elim
      cases k with
      | bo => exact m.elim
      | fz => exact go F1 p m
      | ow => obtain ⟨F2, p2⟩ := p.frz; exact go F2 p2 m
  · exact m.elim
variable {e i' : Expr} {f v : Ev → R} {x : Str} {p apos cpos pos : Pos}
theorem vs_app (i : Nat) (he : VE X F0 H0 Ψ e f) (hN : X.N[i]? = some x := by rfl) (hv : Vis X.env.scope x := by first | exact Or.inl rfl | exact Or.inr (Or.inl rfl) | exact Or.inr (Or.inr rfl)) (hd : (x == ("__debug__" : Str)) = false := by decide)
    (hcd : (x == ("__classdict__" : Str)) = false := by decide) (hbase : attributeBase (.Name x p) "append" X.env (eval (.Name x p) X.env) = eval (.Name x p) X.env := by rfl)
    (hfew : ((backTo cpos (starEach [e] X.env)).all (fun x => !x.1) && (backToKw cpos (keywordEach [] X.env)).all (fun x => x.1.isSome)
      && decide ([e].length + ([] : List Keyword).length + (if ([] : List Keyword).isEmpty then 0 else 1) < 30)) = true := by rfl)
    (hline : (apos.endLine == cpos.line) = true := by rfl) (hs : starEach [e] X.env = (false, eval e X.env) :: starEach [] X.env := by rfl) (hplain : (backTo cpos (starEach [] X.env)).any (·.1) = false := by rfl)
    (hsw : swapsWith (.Call (.Attribute (.Name x p) "append" apos) [e] [] cpos) none pos.line X.env = pure false := by rfl) :
    VS X F0 H0 Ψ (.Expr (.Call (.Attribute (.Name x p) "append" apos) [e] [] cpos) pos) (appG i f) :=
  (ps_expr (pe_bm PySem.F.plainAttrs_list PySem.F.slot_list_append PySem.F.type_list_append mt_append (pe_var hN hv hd hcd) (pa_cons he pa_nil hs) hbase hfew hline hs hplain) hsw).mono fun _ _ _ q => tApp_of q
end
def spV0 (K : PySem.W.Frag) (φ : List D → R) (n : Nat) : Sp := fun vs H Q _ => ∃ F ds, Same F H ∧ Reps K F ds vs ∧ ds.length = n ∧ match φ ds with
  | .ok k d => k ≠ .bo ∧ ∀ F' v H', Post K F H k d F' v H' → Q v H'
  | _ => False
abbrev Psi0 : Psi := fun _ _ => False
structure Callee (P : Program) (w : World) (K : PySem.W.Frag) (mg : Str → Option Value) (base : Heap) (k : Nat) (x : Str) (n : Nat) (φ : List D → R) : Prop where
  ex : ∃ f fd ps, FnOk P w K mg base CX0 k f fd ps (spV0 K φ n) ∧ Binds K fd ps [] ∧ mg x = some (.ref f) ∧ PySem.W.keepIn K (.ref f) = true
section
variable {X : Cx} {F0 H0 : Hp} {Ψ : Psi} {k n : Nat} {x : Str} {φ : List D → R} {p pos : Pos} {e : Expr} {es : List Expr} {fs : Ev → RA}
theorem scal_rep {K : PySem.W.Frag} {F F' H : Hp} {d : D} {v : V} (s : scalD d = true) (h : RdV K F H d v) : Rep K F' d v := by
  cases d <;> first | cases s | skip
  · rw [Rep]; exact h.non
  · rw [Rep]; exact h.bl
  · rw [Rep]; exact h.int
  · rw [Rep]; exact h.str
theorem v_fn (C : Callee X.prog X.w X.K X.mg X.base k x n φ) (hr : Room k X.A) (ha : VA X F0 H0 Ψ (e :: es) fs) (hg : Gl X x := by rfl) (hdb : (x == ("__debug__" : Str)) = false := by decide)
    (he : starEach (e :: es) X.env = (false, eval e X.env) :: starEach es X.env := by rfl) (hpl : (backTo pos (starEach es X.env)).any (·.1) = false := by rfl) :
    VE X F0 H0 Ψ (.Call (.Name x p) (e :: es) [] pos) (eFn n φ fs) := by
  obtain ⟨f, fd, ps, Fk, hb, hm, hk⟩ := C.ex
  refine (pe_call (E := E0) (dvs := []) (ds := []) Fk hr hg hm hk hb .nil pass0 ha hdb he hpl).mono fun σ H Q h => ?_
  obtain ⟨F, ev, fi, m⟩ := h
  refine ⟨F, ev, fi, ?_⟩
  unfold eFn at m
  cases h1 : fs ev with
  | no => rw [h1] at m; exact m
  | ex C => rw [h1] at m; exact m
  | ok l =>
    rw [h1] at m
    intro F1 vs H1 s va
    rw [List.append_nil]
    simp only [fnR] at m
    by_cases hn : l.length = n
    · rw [if_pos hn] at m
      cases h2 : allFz l with
      | some ds =>
        rw [h2] at m
        dsimp only at m
        have rs := va.fz h2
        refine ⟨F1, ds, s.sub, rs, by rw [rs.length, ← va.length]; exact hn, ?_⟩
        cases h3 : φ ds with
        | no => rw [h3] at m; exact m
        | ex C => rw [h3] at m; exact m
        | ok k' d =>
          rw [h3] at m
          cases k' with
          | bo => exact m.elim
          | fz => exact ⟨by simp, fun F' v H' p => m F' v H' ⟨s.trans p.st, p.val.early s.keep⟩⟩
          | ow => exact ⟨by simp, fun F' v H' p => m F' v H' ⟨s.trans p.st, p.val.early s.keep⟩⟩
      | none =>
        rw [h2] at m
        dsimp only at m
        have rs := va.rds s.sub
        refine ⟨H1, l.map (·.2), .refl _, rs, by simpa using hn, ?_⟩
        cases h3 : φ (l.map (·.2)) with
        | no => rw [h3] at m; exact m
        | ex C => rw [h3] at m; exact m
        | ok k' d =>
          rw [h3] at m
          have go : k' ≠ .bo → (match (if scalD d = true then R.ok .fz d else .no) with
            | .ok k d => ∀ F' v H', Post X.K F H k d F' v H' → Q v H'
            | .ex C => ∀ F' H', Step F0 H0 F' H' → Ψ C H'
            | .no => False) → k' ≠ .bo ∧ ∀ F' v H', Post X.K H1 H1 k' d F' v H' → Q v H' := fun nb m => by
            by_cases hs : scalD d = true
            · rw [if_pos hs] at m
              exact ⟨nb, fun F' v H' p => m F1 v H' ⟨s.trans ⟨.refl _, s.sub.trans p.st.keep, p.st.keep, fun a o e => .inl e⟩, scal_rep hs p.val.rd⟩⟩
            · rw [if_neg hs] at m; exact m.elim
          cases k' with
          | bo => exact m.elim
          | fz => exact go (by simp) m
          | ow => exact go (by simp) m
    · rw [if_neg hn] at m; exact m.elim
end
section
variable {P : Program} {w : World} {K : PySem.W.Frag} {mg : Str → Option Value} {base : Heap}
theorem FI.start {F H : Hp} {N : List Str} {ds : List D} {vs : List V} (s : Same F H) (r : Reps K F ds vs) : FI K F H F H (ev0 (N.length - ds.length) ds) (start N vs) := by
  refine ⟨.refl s, fun i k d e => ?_, fun i j d e hij e1 e2 => ?_, ?_⟩
  · unfold ev0 at e
    by_cases hi : i < ds.length
    · rw [List.getElem?_append_left (by simpa using hi), List.getElem?_map] at e
      cases q : ds[i]? with
      | none => rw [q] at e; cases e
      | some z =>
        rw [q] at e; cases e
        obtain ⟨v, e1, rv⟩ := r.get q
        refine ⟨by simp, v, ?_, rv⟩
        unfold L2.start
        rw [List.getElem?_append_left (by rw [List.length_map, ← r.length]; exact hi), List.getElem?_map, e1]
        rfl
    · rw [List.getElem?_append_right (by simpa using hi), List.getElem?_replicate] at e
      split at e <;> cases e
  · exfalso
    unfold ev0 at e1
    by_cases hi : i < ds.length
    · rw [List.getElem?_append_left (by simpa using hi), List.getElem?_map] at e1
      cases q : ds[i]? with
      | none => rw [q] at e1; cases e1
      | some z => rw [q] at e1; cases e1
    · rw [List.getElem?_append_right (by simpa using hi), List.getElem?_replicate] at e1
      split at e1 <;> cases e1
  · unfold ev0 L2.start
    simp only [List.length_append, List.length_map, List.length_replicate, r.length]
theorem fn_ok {x qual : Str} {st : Stmt} {f : Addr} {fd : FuncData} {N ps : List Str} {k : Nat} {g : Ev → Fl} (F : Fun K x qual st f fd) (S : FnScope N ps (defScope st))
    (hb : ∀ (cdv : Value) (A : Around) (outer : List Env) (s : Shared) (H : Hp) (E : XK) (F0 : Hp), Room k (A.deeper (PyProof.Rows.envOfC qual (defScope st) s.heap.objs.size f cdv)) →
      VSs (cxOf CX0 P w K mg base N qual (defScope st) f cdv A outer s H E).nox F0 H Psi0 (defBody st) g) :
    FnOk P w K mg base CX0 (k + 1) f fd ps (spV0 K (runF (N.length - ps.length) g) ps.length) := by
  refine F.ok S (fun vs H Q E h => ?_) (fun cdv A outer s H vs Q E hr h => ?_)
  · obtain ⟨F, ds, _, r, hl, _⟩ := h
    rw [← r.length]; exact hl
  · obtain ⟨F, ds, sub, r, hl, m⟩ := h
    refine ⟨_, hb cdv A outer s H E F hr, F, ev0 (N.length - ps.length) ds, by rw [← hl]; exact .start sub r, ?_⟩
    unfold runF at m
    cases q : g (ev0 (N.length - ps.length) ds) with
    | nx ev => rw [q] at m; exact fun F' H' σ' _ fi => m.2 F' .non H' ⟨fi.st, by rw [Val, Rep]⟩
    | rt k d =>
      rw [q] at m
      cases k with
      | bo => exact m.elim
      | fz => exact m.2
      | ow => exact m.2
    | bk ev => rw [q] at m; exact m.elim
    | ct ev => rw [q] at m; exact m.elim
    | ex C => rw [q] at m; exact m.elim
    | no => rw [q] at m; exact m.elim
end
end L3
set_option Elab.async false
set_option linter.all false
set_option maxRecDepth 100000
namespace L2
open PySem PySem.Spec PyProof.Rows
section
variable {prog : Program} {w : World} {A : Around} {R : Result → Shared → Prop} {s : Shared}
theorem compLoop_any {elt target iter : Expr} {ifs : List Expr} {scope : Scope} {pos : Pos} {it acc : Value} {env : Env} (I : Nat → Shared → Prop)
    (turn : ∀ n s, I n s → wpAny (model prog w) A (pyNext it) (fun r s₁ => match r with
      | none => R (.ok .next) s₁
      | some v => wpAny (model prog w) A (letOwnedTupleGo target it v) (fun _ s₂ => wpAny (model prog w) A (assign target env v) (fun _ s₃ =>
          wpAny (model prog w) A (forIn ifs true fun c r => if r = true then do let ok ← isTrue c env (eval c env); pure (ForInStep.yield ok) else pure (ForInStep.yield r)) (fun ok s₄ =>
            if ok = true then wpAny (model prog w) A (eval elt env) (fun x s₅ =>
              wpAny (model prog w) A (call (.builtin "list.append") [acc, x]) (fun _ s₆ => ∃ m, m < n ∧ I m s₆) (fun _ _ => False) s₅) (fun _ _ => False) s₄
            else ∃ m, m < n ∧ I m s₄) (fun _ _ => False) s₃) (fun _ _ => False) s₂) (fun _ _ => False) s₁) (fun _ _ => False) s)
    (n : Nat) (h : I n s) : codeAny (model prog w) A (.compLoop (.ListComp elt [⟨target, iter, ifs, 0⟩] scope pos) 0 it acc env) R s := by
  refine codeAny_loop rfl I (fun n s hI => ?_) n h
  show wpAny _ A ((compTurn (.ListComp elt [⟨target, iter, ifs, 0⟩] scope pos) 0 it acc env).onRaise (fun x => do noteFrame x env; theTreesLotGoes x)) _ _ s
  refine wpAny_noted ?_
  rw [compTurn_list]
  refine wpAny_bind (wpAny_standAt (wpAny_bind (wpAny_mono (turn n s hI) (fun r s₁ h₁ => ?_) fun _ _ h' => h'.elim)))
  cases r with
  | none => exact wpAny_pure h₁
  | some v =>
    refine wpAny_bind (wpAny_mono h₁ (fun _ s₂ h₂ => ?_) fun _ _ h' => h'.elim)
    refine wpAny_bind (wpAny_mono h₂ (fun _ s₃ h₃ => wpAny_bind (wpAny_mono h₃ (fun ok s₄ h₄ => ?_) fun _ _ h' => h'.elim)) fun _ _ h' => h'.elim)
    cases ok with
    | false => exact wpAny_pure ⟨rfl, h₄⟩
    | true =>
      exact wpAny_bind (wpAny_bind (wpAny_mono h₄ (fun x s₅ h₅ => wpAny_bind (wpAny_mono h₅ (fun _ s₆ h₆ => wpAny_pure (wpAny_pure ⟨rfl, h₆⟩)) fun _ _ h' => h'.elim)) fun _ _ h' => h'.elim))
end
def PIfs (X : Cx) (ifs : List Expr) (t : TT) : Prop :=
  ∀ (pins : List (Addr × Obj)) (s : Shared) (σ : St) (H : Hp) (Q : Bool → Hp → Prop), Inv X pins σ H s → t σ H Q →
    wpAny (model X.prog X.w) X.A (forIn ifs true fun c r => if r = true then do let ok ← isTrue c X.env (eval c X.env); pure (ForInStep.yield ok) else pure (ForInStep.yield r)) (TP X pins σ Q) X.xe s
theorem pifs_nil {X : Cx} : PIfs X [] (fun _ H Q => Q true H) := fun _ _ _ H _ I h => wpAny_tests_nil ⟨H, I, h⟩
def closOf (env : Env) : List (Str × NameKind) → List (Str × Addr) → List (Str × Addr)
  | [], acc => acc
  | (n, k) :: r, acc => closOf env r (if k == .free then (n, (env.cells.lookup n).getD 0) :: acc else acc)
theorem closOf_lookup {env : Env} {x : Str} {c : Addr} : ∀ (l : List (Str × NameKind)) (acc : List (Str × Addr)), (closOf env l acc).lookup x = some c →
    (∃ k, (x, k) ∈ l ∧ k = .free ∧ (env.cells.lookup x).getD 0 = c) ∨ acc.lookup x = some c
  | [], acc, h => .inr h
  | (n, k) :: r, acc, h => by
    rcases closOf_lookup r _ h with ⟨k', h1, h2, h3⟩ | h1
    · exact .inl ⟨k', .tail _ h1, h2, h3⟩
    · by_cases hk : (k == NameKind.free) = true
      · rw [if_pos hk, List.lookup_cons] at h1
        by_cases hx : (x == n) = true
        · simp only [hx] at h1
          have e : x = n := by simpa using hx
          subst e
          exact .inl ⟨k, .head _, by simpa using hk, Option.some.inj h1⟩
        · simp only [hx] at h1; exact .inr h1
      · rw [if_neg hk] at h1; exact .inr h1
theorem closOf_has {env : Env} {x : Str} : ∀ (l : List (Str × NameKind)) (acc : List (Str × Addr)), (x, NameKind.free) ∈ l ∨ (acc.lookup x).isSome = true → ∃ c, (closOf env l acc).lookup x = some c
  | [], acc, h => by
    rcases h with h | h
    · cases h
    · exact Option.isSome_iff_exists.mp h
  | (n, k) :: r, acc, h => by
    refine closOf_has r _ ?_
    rcases h with h | h
    · rcases List.mem_cons.mp h with e | h
      · cases e
        right
        simp [List.lookup_cons]
      · exact .inl h
    · right
      by_cases hk : (k == NameKind.free) = true
      · rw [if_pos hk, List.lookup_cons]
        by_cases hx : (x == n) = true
        · simp [hx]
        · simp only [hx]; exact h
      · rw [if_neg hk]; exact h
theorem closureFor_of {scope : Scope} {env : Env} (h : ∀ y ∈ scope.names, y.2 = .free → ∃ c, env.cells.lookup y.1 = some c) : closureFor scope env = pure (closOf env scope.names []) := by
  have key : ∀ (l : List (Str × NameKind)) (acc : List (Str × Addr)), (∀ y ∈ l, y.2 = .free → ∃ c, env.cells.lookup y.1 = some c) →
      (forIn l acc fun (x : Str × NameKind) (cs : List (Str × Addr)) => (match x with | (name, kind) => if (kind == NameKind.free) = true then (do let c ← cellOf env name; pure (ForInStep.yield ((name, c) :: cs))) else pure (ForInStep.yield cs) : Sem (ForInStep (List (Str × Addr))))) = pure (closOf env l acc) := by
    intro l
    induction l with
    | nil => intro acc _; rfl
    | cons x r ih =>
      intro acc hl
      obtain ⟨n, k⟩ := x
      rw [List.forIn_cons]
      by_cases hk : (k == NameKind.free) = true
      · obtain ⟨c, hc⟩ := hl (n, k) (.head _) (by simpa using hk)
        have e : cellOf env n = pure c := by unfold cellOf; rw [hc]
        simp only [hk, if_true, e, pure_bind, closOf]
        rw [ih _ fun y hy => hl y (.tail _ hy)]
        dsimp only at hc
        rw [hc]
        rfl
      · simp only [hk, Bool.false_eq_true, if_false, pure_bind, closOf]
        exact ih _ fun y hy => hl y (.tail _ hy)
  unfold closureFor
  have := key scope.names [] h
  exact (congrArg (fun m => m >>= fun cs => pure cs) this).trans rfl
theorem relabel_lookup {env : Env} {x : Str} : ∀ {names : List (Str × NameKind)} {k : NameKind}, (names.map fun (n, k) => if (k == NameKind.free && env.scope.kind == .function && env.kindOf n == some .cell) then (n, NameKind.cell) else (n, k)).lookup x = some k →
    names.lookup x = some k ∨ (k = .cell ∧ names.lookup x = some .free)
  | [], _, h => by simp at h
  | (n, k0) :: r, k, h => by
    have ih := @relabel_lookup env x r k
    rw [List.map_cons] at h
    by_cases hx : (x == n) = true
    · by_cases hc : (k0 == NameKind.free && env.scope.kind == .function && env.kindOf n == some .cell) = true
      · simp only [hc, if_true, List.lookup_cons, hx] at h
        have hf : k0 = .free := by simp at hc; exact hc.1.1
        exact .inr ⟨(Option.some.inj h).symm, by simp [List.lookup_cons, hx, hf]⟩
      · simp only [hc, if_false, List.lookup_cons, hx] at h
        exact .inl (by simpa [List.lookup_cons, hx] using h)
    · by_cases hc : (k0 == NameKind.free && env.scope.kind == .function && env.kindOf n == some .cell) = true
      · rw [show (match ((n, k0) : Str × NameKind) with | (n, k) => if (k == NameKind.free && env.scope.kind == .function && env.kindOf n == some .cell) = true then (n, NameKind.cell) else (n, k)) = (n, .cell) from if_pos hc] at h
        rw [List.lookup_cons] at h
        simp only [hx] at h
        simpa [List.lookup_cons, hx] using ih h
      · rw [show (match ((n, k0) : Str × NameKind) with | (n, k) => if (k == NameKind.free && env.scope.kind == .function && env.kindOf n == some .cell) = true then (n, NameKind.cell) else (n, k)) = (n, k0) from if_neg hc] at h
        rw [List.lookup_cons] at h
        simp only [hx] at h
        simpa [List.lookup_cons, hx] using ih h

theorem relabel_free {env : Env} {x : Str} : ∀ {names : List (Str × NameKind)}, names.lookup x = some .free →
    (names.map fun (n, k) => if (k == NameKind.free && env.scope.kind == .function && env.kindOf n == some .cell) then (n, NameKind.cell) else (n, k)).lookup x = some .cell ∨
    (names.map fun (n, k) => if (k == NameKind.free && env.scope.kind == .function && env.kindOf n == some .cell) then (n, NameKind.cell) else (n, k)).lookup x = some .free
  | [], h => by simp at h
  | (n, k0) :: r, h => by
    have ih := @relabel_free env x r
    rw [List.map_cons, List.lookup_cons] at *
    by_cases hx : (x == n) = true
    · simp only [hx] at h
      cases h
      by_cases hc : (NameKind.free == NameKind.free && env.scope.kind == .function && env.kindOf n == some .cell) = true
      · left; simp only [if_pos hc, hx]
      · right; simp only [if_neg hc, hx]
    · simp only [hx] at h
      by_cases hc : (k0 == NameKind.free && env.scope.kind == .function && env.kindOf n == some .cell) = true
      · simp only [if_pos hc, hx]; exact ih h
      · simp only [if_neg hc, hx]; exact ih h
def cxC (X : Cx) (N' : List Str) (scope : Scope) (C : Addr) (s : Shared) (H : Hp) (fp : List Addr) : Cx where
  prog := X.prog
  w := X.w
  K := X.K
  mg := X.mg
  base := X.base
  A := X.A
  N := N'
  s₀ := s
  H₀ := H
  env := compEnvC scope (closOf X.env scope.names []) C X.env
  outer := X.stack
  stack := X.stack
  ex := fp
  fn := fun _ => false
  calm := X.calm
  pn := []
  xe := fun _ _ => False
def capS (cap : List (Option Nat)) (σ : St) : St := cap.map fun o => o.bind fun j => (σ[j]?).join
structure CompScope (X : Cx) (N' : List Str) (cap : List (Option Nat)) (scope : Scope) : Prop where
  kind : scope.kind = .function
  nocell : ∀ y ∈ scope.names, y.2 ≠ .cell
  names : ∀ y ∈ scope.names, y.2 = .local → scope.names.lookup y.1 = some .local
  fr : ∀ y ∈ scope.names, y.2 = .free → X.env.kindOf y.1 = some .cell ∨ X.env.kindOf y.1 = some .free
  len : cap.length = N'.length
  cap : ∀ (i j : Nat), cap[i]? = some (some j) → ∃ x, N'[i]? = some x ∧ X.N[j]? = some x ∧ scope.names.lookup x = some .free
section
variable {X : Cx} {pins : List (Addr × Obj)} {σ : St} {H : Hp} {s : Shared} {N' : List Str} {cap : List (Option Nat)} {scope : Scope} {fp : List Addr}
theorem mem_of_lookup' {x : Str} {k : NameKind} {l : List (Str × NameKind)} (h : l.lookup x = some k) : (x, k) ∈ l := PySem.mem_of_lookup h
theorem CompScope.cells (S : CompScope X N' cap scope) (ok : X.Ok) : ∀ y ∈ scope.names, y.2 = .free → ∃ c, X.env.cells.lookup y.1 = some c := fun y hy hf => ok.has y.1 (S.fr y hy hf)
theorem CompScope.cl (S : CompScope X N' cap scope) (ok : X.Ok) {x : Str} {c : Addr} (h : (closOf X.env scope.names []).lookup x = some c) : X.env.cells.lookup x = some c := by
  rcases closOf_lookup _ _ h with ⟨k, h1, h2, h3⟩ | h1
  · subst h2
    obtain ⟨c', e⟩ := S.cells ok (x, .free) h1 rfl
    rw [e] at h3
    rw [e]; exact congrArg some h3
  · simp at h1
theorem CompScope.inv (S : CompScope X N' cap scope) (I : Inv X pins σ H s) (hfp : ∀ b ∈ fp, FpOk X pins H b) {h' : Heap} {t' : Nat} (hk : ∀ b o, s.heap.get? b = some o → h'.get? b = some o) (hn : h'.Ns s.heap.objs.size fun _ => none) (hfs : ∀ b ∈ fp, b < s.heap.objs.size) :
    Inv (cxC X N' scope s.heap.objs.size s H fp) [] (capS cap σ) H { s with heap := h', toks := t' } := by
  have scl : ∀ {x : Str} {c : Addr}, (closOf X.env scope.names []).lookup x = some c → X.env.cells.lookup x = some c := fun h => S.cl I.ok h
  refine ⟨⟨I.ok.mod, by simpa [cxC, compEnvC, relabel] using S.kind, I.ok.glob, I.ok.blt, Nat.le_refl _, fun x y c h1 h2 => I.ok.inj x y c (scl h1) (scl h2), fun x hx => ?_, fun x c hf h => ?_, I.ok.hd, I.ok.frames, .inl rfl, fun b hb => ⟨Nat.ne_of_lt (hfs b hb), fun x c h => (hfp b hb).2.2.2.2.1 x c (scl h)⟩,
    I.bs, Nat.le_trans I.ok.bsz I.sz, fun b o e hb => ?_, fun b hb hf => ?_, I.stack, I.stkFree⟩, rfl, I.bare, Un.kept hk, ⟨_, hn, fun i x v e1 e2 e3 => ?_⟩, fun x c h => ?_, I.hok.fresh (Nat.le_refl _), fun x c h => I.freeC x c (scl h), fun p hp => absurd (show p ∈ ([] : List (Addr × Obj)) from hp) (by simp), I.hok.kept hk, ?_⟩
  · -- a name of a cell has one
    have hx : (scope.names.map fun (n, k) => if (k == NameKind.free && X.env.scope.kind == .function && X.env.kindOf n == some .cell) then (n, NameKind.cell) else (n, k)).lookup x = some .cell ∨ (scope.names.map fun (n, k) => if (k == NameKind.free && X.env.scope.kind == .function && X.env.kindOf n == some .cell) then (n, NameKind.cell) else (n, k)).lookup x = some .free := hx
    have : (x, NameKind.free) ∈ scope.names := by
      rcases hx with hx | hx
      · rcases relabel_lookup hx with q | ⟨_, q⟩
        · exact absurd rfl (S.nocell _ (mem_of_lookup' q))
        · exact mem_of_lookup' q
      · rcases relabel_lookup hx with q | ⟨q, _⟩
        · exact mem_of_lookup' q
        · cases q
    exact closOf_has _ _ (.inl this)
  · exact absurd (show false = true from hf) (by decide)
  · -- base objects are no iterators
    have hb' := hfp b hb
    rcases hb'.2.2.2.1 with z | z
    · exact I.ok.noex b o e z
    · exact absurd (Nat.lt_of_lt_of_le (Heap.lt_size (I.ok.bs b o e).1) z) (Nat.lt_irrefl _)
  · -- an iterator is no frame
    rcases List.mem_cons.mp (I.stkSub b hf) with e | e
    · exact (hfp b hb).2.1 e
    · exact (hfp b hb).2.2.1 e
  · -- the names from around
    obtain ⟨j, hj, hv⟩ : ∃ j, cap[i]? = some (some j) ∧ σ[j]? = some (some v) := by
      unfold capS at e2
      rw [List.getElem?_map] at e2
      cases q : cap[i]? with
      | none => rw [q] at e2; cases e2
      | some o =>
        rw [q] at e2
        cases o with
        | none => cases e2
        | some j =>
          refine ⟨j, rfl, ?_⟩
          have e2 : (σ[j]?).join = some v := Option.some.inj e2
          cases q2 : σ[j]? with
          | none => rw [q2] at e2; cases e2
          | some z => rw [q2] at e2; rw [show z = some v from e2]
    obtain ⟨y, g1, g2, g3⟩ := S.cap i j hj
    have exy : x = y := Option.some.inj (e1.symm.trans g1)
    subst exy
    have hk2 := S.fr (x, .free) (mem_of_lookup' g3) rfl
    obtain ⟨m, hm, hl⟩ := I.loc
    obtain ⟨u, r, l⟩ := hl j x v g2 hv (hk2.elim (fun z => .inr (.inl z)) fun z => .inr (.inr z))
    refine ⟨u, r, .inr ⟨relabel_free g3, ?_⟩⟩
    rcases l with ⟨z, _⟩ | ⟨_, c, e, q⟩
    · rcases hk2 with z' | z' <;> (rw [z] at z'; cases z')
    · obtain ⟨c', e'⟩ := closOf_has (env := X.env) (x := x) scope.names [] (.inl (mem_of_lookup' g3))
      have := scl e'
      rw [e] at this
      cases this
      exact ⟨c, e', q.keeps hk⟩
  · obtain ⟨v, q⟩ := I.cell x c (scl h)
    exact ⟨v, q.keeps hk⟩
  · show (capS cap σ).length = N'.length
    unfold capS; rw [List.length_map]; exact S.len
end
end L2
set_option Elab.async false
set_option linter.all false
set_option maxRecDepth 100000
namespace L2
open PySem PySem.Spec PyProof.Rows
def tLC (cap : List (Option Nat)) (wi : TI) (g : TG) (tc : TT) (te : TE) : TE := fun σ H Q => wi σ H fun J H1 => ∀ D, H1 D = none → ∃ W : Nat → Nat → List V → L2.St → Hp → Prop,
  (∃ m, W 0 m [] (capS cap σ) (upd H1 D (.lst []))) ∧ ∀ i m ys σ' H', W i m ys σ' H' → H' D = some (.lst ys) ∧ ys.length < sizeLine ∧
    ((J.stop i H' ∧ Q (.ref D) H') ∨ (J.go i H' ∧ ∀ x H2, J.yld i H' x H2 → g x σ' H2 fun σ3 H3 => tc σ3 H3 fun b H4 =>
      if b = true then te σ3 H4 fun y H5 => H5 D = some (.lst ys) ∧ ∃ m', m' < m ∧ W (i + 1) m' (ys ++ [y]) σ3 (upd H5 D (.lst (ys ++ [y]))) else ∃ m', m' < m ∧ W (i + 1) m' ys σ3 H4))
section
variable {X : Cx} {pins : List (Addr × Obj)} {σ : L2.St} {H : Hp} {s : Shared} {N' : List Str} {cap : List (Option Nat)} {scope : Scope} {elt target iter : Expr} {ifs : List Expr} {wi : TI} {g : TG} {tc : TT} {te : TE} {pos p0 : Pos}
theorem comp_run {use : Option (Value → Sem Unit)} {Q' : VK} {Q : Value → Shared → Prop} (hcalm : X.calm = true) (S : CompScope X N' cap scope) (hi : PI X target iter wi)
    (hb : ∀ C s H fp, PG (cxC X N' scope C s H fp) target g ∧ PIfs (cxC X N' scope C s H fp) ifs tc ∧ PE (cxC X N' scope C s H fp) elt te) (hs : ∀ x, foldedSetIterable iter X.env x = pure x)
    (I : Inv X pins σ H s) (h : tLC cap wi g tc te σ H Q')
    (fin : ∀ (D C : Addr) (o : Obj) (H' : Hp) (s' : Shared), Inv X (pins ++ [(C, o)]) σ H' s' → FpOk X pins H' C → (∃ m, ∀ h : Heap, h.get? C = some o → h.Ns C m) → Q' (.ref D) H' → compPost (model X.prog X.w) X.A X.xe use Q (.ref D) C (.ok .next) s') :
    wpAny (model X.prog X.w) X.A (comprehension (.ListComp elt [⟨target, iter, ifs, 0⟩] scope pos) scope X.env p0 (newList []) false (eval iter X.env) use) Q X.xe s := by
  refine wpAny_comprehension_free rfl hs (closureFor_of (S.cells I.ok)) S.kind S.names ?_
  refine thn (hi pins s σ H _ I h) fun xv s₁ h₁ => thn h₁ fun itv s₂ h₂ => ?_
  obtain ⟨it, fp, tn, J, H2, rfl, I2, T, st2, f2, h2⟩ := h₂
  have hlt : ∀ b ∈ fp, b < s₂.heap.objs.size := fun b hb => by obtain ⟨o, e, _⟩ := T.obj 0 _ st2 b hb; exact Heap.lt_size e
  refine wpAny_newObj_type (wpAny_newFunctionEnv S.nocell (by intro y hy; simp at hy) (fun h4 hns4 hsb4 => ?_) S.kind)
  have I3 := I2.lnew (ys := []) (its := []) (t' := s₂.toks) .nil (Nat.zero_le _)
  obtain ⟨W, ⟨m0, w0⟩, turn⟩ := h2 s₂.heap.objs.size (I2.hok.fresh (Nat.le_refl _))
  have f3 : ∀ b ∈ fp, FpOk X pins (upd H2 s₂.heap.objs.size (.lst [])) b := fun b hb => by
    obtain ⟨q0, q⟩ := f2 b hb
    exact ⟨by rw [upd_ne (Nat.ne_of_lt (hlt b hb))]; exact q0, q⟩
  generalize hs3 : ({ s₂ with heap := s₂.heap.push { cls := .type "list", dict := none, data := .seq ([] : List Value).toArray } } : Shared) = s3 at *
  have hk : ∀ b o, s3.heap.get? b = some o → h4.get? b = some o := fun b o e => hsb4.extBut b o (Nat.ne_of_lt (Heap.lt_size e)) (Heap.get?_push_of_some _ e)
  have hsz : s₂.heap.objs.size ≤ s3.heap.objs.size := by rw [← hs3]; show _ ≤ (s₂.heap.push _).objs.size; rw [Heap.size_push]; exact Nat.le_succ _
  have hlt3 : ∀ b ∈ fp, b < s3.heap.objs.size := fun b hb => Nat.lt_of_lt_of_le (hlt b hb) hsz
  have kept23 : ∀ b o, s₂.heap.get? b = some o → s3.heap.get? b = some o := fun b o e => by rw [← hs3]; exact Heap.get?_push_of_some _ e
  have Ic := S.inv (t' := s3.toks + ([] : List (Str × Value)).length) I3 f3 hk hns4 hlt3
  have st4 : tn 0 h4 := T.keep 0 _ _ st2 fun b hb o e => hk b o (kept23 b o e)
  obtain ⟨bg, bi, be⟩ := hb s3.heap.objs.size s3 (upd H2 s₂.heap.objs.size (.lst [])) fp
  -- the iterator's objects, in the block
  have statC : ∀ {H' : Hp}, (∀ b ∈ fp, H' b = none) → ∀ b ∈ fp, FpOk (cxC X N' scope s3.heap.objs.size s3 (upd H2 s₂.heap.objs.size (.lst [])) fp) [] H' b := fun hn b hb =>
    ⟨hn b hb, Nat.ne_of_lt (hlt3 b hb), fun hf => by
      rcases List.mem_cons.mp (I3.stkSub b hf) with e | e
      · exact (f3 b hb).2.1 e
      · exact (f3 b hb).2.2.1 e, .inl hb, fun x c e => (f3 b hb).2.2.2.2.1 x c (S.cl I3.ok e), fun p hp => absurd (show p ∈ ([] : List (Addr × Obj)) from hp) (by simp)⟩
  have loop : codeAny (model X.prog X.w) X.A (.compLoop (.ListComp elt [⟨target, iter, ifs, 0⟩] scope pos) 0 (.ref it) (.ref s₂.heap.objs.size) (compEnvC scope (closOf X.env scope.names []) s3.heap.objs.size X.env))
      (compPost (model X.prog X.w) X.A X.xe use Q (.ref s₂.heap.objs.size) s3.heap.objs.size) { s3 with heap := h4, toks := s3.toks + ([] : List (Str × Value)).length } := by
    refine compLoop_any (fun n s' => ∃ i ys σ' H', Inv (cxC X N' scope s3.heap.objs.size s3 (upd H2 s₂.heap.objs.size (.lst [])) fp) [] σ' H' s' ∧ tn i s'.heap ∧ (∀ b ∈ fp, H' b = none) ∧ W i n ys σ' H') ?_ m0
      ⟨0, [], _, _, Ic, st4, fun b hb => (f3 b hb).1, w0⟩
    rintro n s5 ⟨i, ys, σ5, H5, I5, st5, fr5, w5⟩
    obtain ⟨hD, hl, alt⟩ := turn i n ys σ5 H5 w5
    rcases alt with ⟨stop, q⟩ | ⟨go, step⟩
    · refine thn (T.done (cxC X N' scope s3.heap.objs.size s3 (upd H2 s₂.heap.objs.size (.lst [])) fp) rfl rfl rfl hcalm i [] s5 σ5 H5 _ I5 (statC fr5) st5 stop) fun r s6 ⟨hr, I6⟩ => ?_
      subst hr
      -- back to the outer frame
      have I7 : Inv X pins σ H5 s6 := I3.call' (ch := fp) I6.os I6.base I6.hok I6.bare fun b hb => ⟨(f3 b hb).2.2.2.1, (f3 b hb).2.1, (f3 b hb).2.2.2.2.1, (f3 b hb).2.2.2.2.2⟩
      obtain ⟨m, ⟨o, es, ep, ho, hd, hrest⟩, _⟩ := id I6.loc
      have hC : FpOk X pins H5 s3.heap.objs.size := I3.fpOk (Nat.le_refl _) I6.free
      refine fin _ _ o H5 s6 (I7.pins_of fun p hp => ?_) hC ⟨m, fun h e => ⟨o, es, ep, e, hd, hrest⟩⟩ q
      rcases List.mem_append.mp hp with hp | hp
      · exact I7.pin p (List.mem_append_right _ hp)
      · have e : p = (s3.heap.objs.size, o) := by simpa using hp
        subst e
        exact ⟨ho, hC.1, hC.2.1, hC.2.2.1, fun v => by rw [hd]; intro z; cases z⟩
    · refine thn (T.item (cxC X N' scope s3.heap.objs.size s3 (upd H2 s₂.heap.objs.size (.lst [])) fp) rfl rfl rfl hcalm i [] s5 σ5 H5 _ I5 (statC fr5) st5 go) fun r s6 ⟨u, hr, h6⟩ => ?_
      subst hr
      refine thn h6 fun _ s7 ⟨x, H7, I7, r7, y7, st7, fr7⟩ => ?_
      have I7' := I7.pinned (statC fr7) (T.obj _ _ st7)
      refine thn (bg _ s7 σ5 H7 x u _ I7' r7 (step x H7 y7)) fun _ s8 ⟨σ8, H8, I8, q8⟩ => ?_
      refine thn (bi _ s8 σ8 H8 _ I8 q8) fun ok s9 ⟨H9, I9, q9⟩ => ?_
      have again : ∀ {ys' : List V} {H' : Hp} {s' : Shared} {m' : Nat}, Inv (cxC X N' scope s3.heap.objs.size s3 (upd H2 s₂.heap.objs.size (.lst [])) fp) ([] ++ pinsAt fp s7.heap) σ8 H' s' → m' < n → W (i + 1) m' ys' σ8 H' →
          ∃ m, m < n ∧ ∃ i ys σ' H', Inv (cxC X N' scope s3.heap.objs.size s3 (upd H2 s₂.heap.objs.size (.lst [])) fp) [] σ' H' s' ∧ tn i s'.heap ∧ (∀ b ∈ fp, H' b = none) ∧ W i m ys σ' H' := fun {ys' H' s' m'} I' hm w' => by
        refine ⟨m', hm, i + 1, ys', σ8, H', I'.unpinned, T.keep _ _ _ st7 fun b hb o e => (I'.pin (b, o) (List.mem_append_right _ (List.mem_append_right _ (mem_pinsAt hb e)))).1, fun b hb => ?_, w'⟩
        obtain ⟨o, e, d⟩ := T.obj _ _ st7 b hb
        exact (I'.pin (b, o) (List.mem_append_right _ (List.mem_append_right _ (mem_pinsAt hb e)))).2.1
      cases ok with
      | false =>
        rw [if_neg Bool.false_ne_true] at q9 ⊢
        obtain ⟨m', hm, w'⟩ := q9
        exact again I9 hm w'
      | true =>
        rw [if_pos rfl] at q9 ⊢
        refine thn (be _ s9 σ8 H9 _ I9 q9) fun v s10 ⟨y, H10, I10, r10, hD10, m', hm, w'⟩ => ?_
        refine thn (mt_append _ s10 σ8 H10 (.ref s₂.heap.objs.size) [y] (.ref s₂.heap.objs.size) [v] (fun _ H' => H' = upd H10 s₂.heap.objs.size (.lst (ys ++ [y]))) I10 rfl (.cons r10 .nil) ⟨_, ys, y, rfl, rfl, hD10, hl, rfl⟩) fun _ s11 ⟨_, H11, I11, _, e11⟩ => ?_
        subst e11
        exact again I11 hm w'
  exact codeAny_compStart_list loop (T.self _ 0 _ _ _ st4 loop)
theorem comp_letgo {C : Addr} {o : Obj} {H' : Hp} {s' : Shared} {σ' : L2.St} (I : Inv X (pins ++ [(C, o)]) σ' H' s') (f : FpOk X pins H' C) {h' : Heap} (sb : Heap.SameBut C s'.heap h') : Inv X pins σ' H' { s' with heap := h' } :=
  (I.unpinned).turned (t' := s'.toks) (fun b ob hb e => sb.extBut b ob hb e) f.1 f.2.1 f.2.2.2.1 f.2.2.2.2.1 f.2.2.2.2.2
theorem ps_lcomp {i : Nat} {y : Str} {py spos : Pos} (hcalm : X.calm = true) (S : CompScope X N' cap scope) (hi : PI X target iter wi)
    (hb : ∀ C s H fp, PG (cxC X N' scope C s H fp) target g ∧ PIfs (cxC X N' scope C s H fp) ifs tc ∧ PE (cxC X N' scope C s H fp) elt te) (hpg : PG X (.Name y py) (gName i))
    (hsw : swapsWith (.ListComp elt [⟨target, iter, ifs, 0⟩] scope pos) (some (.Name y py)) spos.line X.env = pure true) (hs : ∀ x, foldedSetIterable iter X.env x = pure x := by intro _; rfl) :
    PS X (.Assign [.Name y py] (.ListComp elt [⟨target, iter, ifs, 0⟩] scope pos) spos) (tAsg (tLC cap wi g tc te) (gName i)) := by
  intro pins s σ H D I h
  rw [exec_Assign_Name_used _ _ _ _ hsw]
  refine wpAny_bind (wpAny_standAt (wpAny_bind ?_))
  show wpAny _ X.A (do let _ ← comprehension (.ListComp elt [⟨target, iter, ifs, 0⟩] scope pos) scope X.env _ (newList []) false (eval iter X.env) (some (assign (.Name y py) X.env))) _ _ s
  refine wpAny_bind (wpAny_mono (comp_run (use := some (assign (.Name y py) X.env)) (Q := fun _ s' => SP X pins D .next s') hcalm S hi hb hs I h fun A C o H' s' I' f ⟨m, hm⟩ q => ?_) (fun _ s' hq => wpAny_pure (wpAny_pure hq)) fun _ _ e => e)
  show wpAny _ X.A (assign (.Name y py) X.env (.ref A)) _ _ s'
  refine thn (hpg _ s' σ H' (.ref A) (.ref A) (fun σ' H'' => H'' = H' ∧ D.nx σ' H'') I' rfl ⟨rfl, q⟩) fun _ s'' ⟨σ2, H2, I2, e2, q2⟩ => ?_
  subst e2
  exact ⟨m, hm _ (I2.pin (C, o) (by simp)).1, fun h' sb => ⟨σ2, H2, comp_letgo I2 f sb, q2⟩⟩
end
end L2
set_option Elab.async false
set_option linter.all false
set_option maxRecDepth 100000
namespace L3
open PySem L2
def capE (cap : List (Option Nat)) (ev : Ev) : Ev := cap.map fun o => o.bind fun j => match (ev[j]?).join with
  | some (.fz, d) => some (.fz, d)
  | _ => none
def compE (b : B1) (c e : Ev → R) (ev : Ev) : List D → Option (List D)
  | [] => some []
  | d :: ds => match b d ev with
    | none => none
    | some ev1 => match c ev1 with
      | .ok _ (.bl t) => if t then (match e ev1 with
        | .ok .bo _ => none
        | .ok _ x => (compE b c e ev ds).map (x :: ·)
        | _ => none) else compE b c e ev ds
      | _ => none
def compR (cap : List (Option Nat)) (b : B1) (c e : Ev → R) (ev : Ev) : RI → R
  | .ok ds => if ds.length < LIM then (match compE b c e (capE cap ev) ds with
    | some l => .ok .ow (.lst l)
    | none => .no) else .no
  | .ex C => .ex C
  | .no => .no
def eComp (cap : List (Option Nat)) (fi : Ev → RI) (b : B1) (c e : Ev → R) (ev : Ev) : R := compR cap b c e ev (fi ev)
def BOnly (S : List Nat) (b : B1) : Prop := ∀ d ev ev', b d ev = some ev' → ev'.length = ev.length ∧ ∀ i, i ∉ S → ev'[i]? = ev[i]?
theorem bo_name (i : Nat) : BOnly [i] (bName i) := fun d ev ev' e => by
  cases e
  exact ⟨by simp, fun j hj => by rw [List.getElem?_set_ne]; simp at hj; exact fun z => hj z.symm⟩
section
variable {X : Cx} {K : PySem.W.Frag} {F0 H0 F H F' H' : Hp} {Ψ : Psi} {σ : L2.St} {ev : Ev}
theorem capE_no (cap : List (Option Nat)) (ev : Ev) {i : Nat} {d : D} : (capE cap ev)[i]? ≠ some (some (.ow, d)) := fun e => by
  unfold capE at e
  rw [List.getElem?_map] at e
  cases q : cap[i]? with
  | none => rw [q] at e; cases e
  | some o =>
    rw [q] at e
    cases o with
    | none => cases e
    | some j =>
      have e : (match (ev[j]?).join with | some (.fz, d) => some (Kd.fz, d) | _ => none) = some (.ow, d) := Option.some.inj e
      split at e <;> cases e
theorem FI.cap (cap : List (Option Nat)) (f : FI K F0 H0 F H ev σ) : FI K F0 H0 F H (capE cap ev) (capS cap σ) := by
  refine ⟨f.st, fun i k d e => ?_, fun i j d e _ e1 _ => absurd e1 (capE_no cap ev), by simp [capE, capS]⟩
  have e' := e
  unfold capE at e
  rw [List.getElem?_map] at e
  cases q : cap[i]? with
  | none => rw [q] at e; cases e
  | some o =>
    rw [q] at e
    cases o with
    | none => cases e
    | some j =>
      have e : (match (ev[j]?).join with | some (.fz, d) => some (Kd.fz, d) | _ => none) = some (k, d) := Option.some.inj e
      split at e
      · rename_i d' hj
        cases e
        have hj' : ev[j]? = some (some (.fz, d)) := by
          cases q2 : ev[j]? with
          | none => rw [q2] at hj; cases hj
          | some z => rw [q2] at hj; rw [show z = some (.fz, d) from hj]
        obtain ⟨n, v, e1, hv⟩ := f.at_ j _ _ hj'
        refine ⟨n, v, ?_, hv⟩
        unfold capS
        rw [List.getElem?_map, q]
        show some ((σ[j]?).join) = _
        rw [e1]; rfl
      · cases e
theorem FI.hid {a : Addr} {o : HO} (f : FI K F0 H0 F H ev σ) (no : ∀ (i : Nat) d, ev[i]? ≠ some (some (.ow, d))) (h0 : H0 a = none) (hf : F a = none) : FI K F0 H0 F (upd H a o) ev σ := by
  have ne : ∀ {G : Hp}, G a = none → Same G H → Same G (upd H a o) := fun {G} n s b u q => by
    rw [upd_ne]; exact s b u q
    rintro rfl; rw [n] at q; cases q
  refine ⟨⟨f.st.up, ne hf f.sub, ne h0 f.st.keep, f.st.new⟩, fun i k d e => ?_, f.apart, f.len⟩
  obtain ⟨n, v, e1, hv⟩ := f.at_ i k d e
  cases k with
  | bo => exact absurd rfl n
  | ow => exact absurd e (no i d)
  | fz => exact ⟨n, v, e1, hv⟩
structure LCI (K : PySem.W.Frag) (F0 H0 F H F1 : Hp) (ce : Ev) (cf : List D → Option (List D)) (ds l : List D) (Dd : Addr) (i m : Nat) (ys : List V) (σ' : St) (H' F2 : Hp) (es rest : List D) : Prop where
  em : m = ds.length - i
  hi : i ≤ ds.length
  f2 : FI K F0 H0 F2 H' ce σ'
  u2 : Same F1 F2
  st : Step F H F2 H'
  hd : H' Dd = some (.lst ys)
  hf : F2 Dd = none
  rs : Reps K F2 es ys
  cs : cf (ds.drop i) = some rest
  el : es ++ rest = l
  hel : es.length ≤ i
theorem LCI.same {F0 H0 F H F1 : Hp} {ce : Ev} {cf : List D → Option (List D)} {ds l : List D} {Dd : Addr} {i m : Nat} {ys : List V} {σ' σ3 : St} {H' F2 F4 H4 : Hp} {es rest : List D} (x : LCI K F0 H0 F H F1 ce cf ds l Dd i m ys σ' H' F2 es rest) (hlt : i < ds.length) (s : Step F2 H' F4 H4) (f : FI K F0 H0 F4 H4 ce σ3)
    (cs : cf (ds.drop (i + 1)) = some rest) : LCI K F0 H0 F H F1 ce cf ds l Dd (i + 1) (ds.length - (i + 1)) ys σ3 H4 F4 es rest :=
  ⟨rfl, hlt, f, x.u2.trans s.up, x.st.trans s, s.keep _ _ x.hd, s.unfz x.hd x.hf, x.rs.mono s.up, cs, x.el, Nat.le_succ_of_le x.hel⟩
theorem same_upd {G H5 : Hp} {Dd : Addr} {o : HO} (n : G Dd = none) (s : Same G H5) : Same G (upd H5 Dd o) := fun b u q => by
  rw [upd_ne]; exact s b u q
  rintro rfl; rw [n] at q; cases q
theorem LCI.more {F0 H0 F H F1 : Hp} {ce : Ev} {cf : List D → Option (List D)} {ds l : List D} {Dd : Addr} {i m : Nat} {ys : List V} {σ' σ3 : St} {H' F2 F6 H5 : Hp} {es rest rest' : List D} {d : D} {v : V} (x : LCI K F0 H0 F H F1 ce cf ds l Dd i m ys σ' H' F2 es rest) (hlt : i < ds.length) (s : Step F2 H' F6 H5) (hD : H Dd = none)
    (f : FI K F0 H0 F6 (upd H5 Dd (.lst (ys ++ [v]))) ce σ3) (r : Rep K F6 d v) (cs : cf (ds.drop (i + 1)) = some rest') (e : d :: rest' = rest) : LCI K F0 H0 F H F1 ce cf ds l Dd (i + 1) (ds.length - (i + 1)) (ys ++ [v]) σ3 (upd H5 Dd (.lst (ys ++ [v]))) F6 (es ++ [d]) rest' :=
  have S := x.st.trans s
  have hf := s.unfz x.hd x.hf
  ⟨rfl, hlt, f, x.u2.trans s.up, ⟨S.up, same_upd hf S.sub, same_upd hD S.keep, S.new⟩, upd_same, hf, (x.rs.mono s.up).app (.cons r .nil), cs, by rw [← x.el, ← e]; simp, by simpa using x.hel⟩
theorem tLC_of {cap : List (Option Nat)} {fi : Ev → RI} {b : B1} {c e : Ev → R} {S : List Nat} {Q : VK} (hB : BOnly S b) (hS : ∀ i ∈ S, cap[i]? = some none) (h : tV K F0 H0 Ψ (eComp cap fi b c e) σ H Q) :
    tLC cap (tVI K F0 H0 Ψ fi) (gV K F0 H0 b) (tVT K F0 H0 Psi0 c) (tV K F0 H0 Psi0 e) σ H Q := by
  obtain ⟨F, ev, fi', m⟩ := h
  refine ⟨F, ev, fi', ?_⟩
  unfold eComp at m
  cases h1 : fi ev with
  | no => rw [h1] at m; exact m
  | ex C => rw [h1] at m; exact m
  | ok ds =>
    rw [h1] at m
    intro F1 H1 J s y Dd hD
    simp only [compR] at m
    by_cases hl : ds.length < LIM
    · rw [if_pos hl] at m
      cases h2 : compE b c e (capE cap ev) ds with
      | none => rw [h2] at m; exact m.elim
      | some l =>
        rw [h2] at m
        have hD0 : H0 Dd = none := (fi'.st.trans s).keep.free hD
        have hDH : H Dd = none := s.keep.free hD
        have hDF : F1 Dd = none := s.sub.free hD
        refine ⟨fun i m ys σ' H' => ∃ F2 es rest, LCI K F0 H0 F H F1 (capE cap ev) (compE b c e (capE cap ev)) ds l Dd i m ys σ' H' F2 es rest, ?_, ?_⟩
        · exact ⟨ds.length, F1, [], l, by simp, Nat.zero_le _, ((fi'.later s).cap cap).hid (fun i d => capE_no cap ev) hD0 hDF, .refl _, ⟨s.up, same_upd hDF s.sub, same_upd hDH s.keep, s.new⟩, upd_same, hDF, .nil, h2, rfl, Nat.zero_le _⟩
        · rintro i m' ys σ' H' ⟨F2, es, rest, x⟩
          refine ⟨x.hd, by rw [← x.rs.length]; exact Nat.lt_of_le_of_lt (Nat.le_trans x.hel x.hi) (Nat.lt_of_lt_of_le hl sizeLine_ge), ?_⟩
          have ce := x.cs
          by_cases hlt : i < ds.length
          · have hm : ds.length - (i + 1) < m' := by rw [x.em]; exact Nat.sub_lt_sub_left hlt (Nat.lt_succ_self _)
            refine .inr ⟨y.go i H' (x.u2.trans x.f2.sub) hlt, fun v H2 yl => ?_⟩
            obtain ⟨F3, d, s3, ed, r⟩ := y.yld i F2 H' v H2 x.u2 x.f2.sub hlt yl
            have edr : ds.drop i = d :: ds.drop (i + 1) := by
              obtain ⟨h, e'⟩ := List.getElem?_eq_some_iff.mp ed
              rw [← e']
              exact List.drop_eq_getElem_cons h
            rw [edr] at ce
            simp only [compE] at ce
            cases q1 : b d (capE cap ev) with
            | none => rw [q1] at ce; cases ce
            | some ev1 =>
              rw [q1] at ce
              dsimp only at ce
              refine ⟨F3, capE cap ev, d, ev1, x.f2.later s3, r, q1, fun H'' σ3 hH f3 => ?_⟩
              subst hH
              obtain ⟨lb, gb⟩ := hB _ _ _ q1
              have weak : ∀ {F4 H4 : Hp}, FI K F0 H0 F4 H4 ev1 σ3 → FI K F0 H0 F4 H4 (capE cap ev) σ3 := fun f4 => f4.weak lb.symm fun j k d' e' => by
                by_cases hj : j ∈ S
                · have := hS j hj
                  unfold capE at e'
                  rw [List.getElem?_map, this] at e'
                  cases e'
                · rw [gb j hj]; exact e'
              refine ⟨F3, ev1, f3, ?_⟩
              cases q2 : c ev1 with
              | no => rw [q2] at ce; cases ce
              | ex C => rw [q2] at ce; cases ce
              | ok k2 d2 =>
                rw [q2] at ce
                cases d2 with
                | bl t =>
                  intro F4 H4 s4
                  have st34 := s3.trans s4
                  cases t with
                  | false =>
                    rw [if_neg Bool.false_ne_true]
                    simp only [Bool.false_eq_true, if_false] at ce
                    exact ⟨_, hm, F4, es, rest, x.same hlt st34 (weak (f3.later s4)) ce⟩
                  | true =>
                    rw [if_pos rfl]
                    simp only [if_true] at ce
                    refine ⟨F4, ev1, f3.later s4, ?_⟩
                    cases q3 : e ev1 with
                    | no => rw [q3] at ce; cases ce
                    | ex C => rw [q3] at ce; cases ce
                    | ok k3 x3 =>
                      rw [q3] at ce
                      intro F5 v5 H5 p5
                      have go : ∀ F6, Post K F4 H4 .fz x3 F6 v5 H5 → ((compE b c e (capE cap ev) (ds.drop (i + 1))).map (x3 :: ·)) = some rest → H5 Dd = some (.lst ys) ∧ ∃ m'', m'' < m' ∧ ∃ F2 es rest, LCI K F0 H0 F H F1 (capE cap ev) (compE b c e (capE cap ev)) ds l Dd (i + 1) m'' (ys ++ [v5]) σ3 (upd H5 Dd (.lst (ys ++ [v5]))) F2 es rest := fun F6 p6 ce => by
                        have st := st34.trans p6.st
                        cases q4 : compE b c e (capE cap ev) (ds.drop (i + 1)) with
                        | none => rw [q4] at ce; cases ce
                        | some rest' =>
                          rw [q4] at ce
                          exact ⟨st.keep _ _ x.hd, _, hm, F6, es ++ [x3], rest', x.more hlt st hDH ((weak ((f3.later s4).later p6.st)).hid (fun i d => capE_no cap ev) hD0 (st.unfz x.hd x.hf)) p6.val q4 (Option.some.inj ce)⟩
                      cases k3 with
                      | bo => cases ce
                      | fz => exact go F5 p5 ce
                      | ow => obtain ⟨F6, p6⟩ := p5.frz; exact go F6 p6 ce
                | _ => cases ce
          · have e2 : i = ds.length := Nat.le_antisymm x.hi (Nat.le_of_not_lt hlt)
            subst e2
            rw [List.drop_length] at ce
            cases ce
            refine .inl ⟨y.stop _ H' (x.u2.trans x.f2.sub) (Nat.le_refl _), ?_⟩
            have el := x.el
            rw [List.append_nil] at el
            subst el
            exact m F2 _ H' ⟨x.st, Dd, rfl, hDH, x.hf, ys, x.hd, x.rs⟩
    · rw [if_neg hl] at m; exact m.elim
end
end L3
set_option Elab.async false
set_option linter.all false
set_option maxRecDepth 100000
namespace L3
open PySem L2
def capOk (N N' : List Str) (cap : List (Option Nat)) (names : List (Str × NameKind)) : Bool := (List.range cap.length).all fun i => match cap[i]? with
  | some (some j) => (match N'[i]?, N[j]? with
    | some x, some y => decide (x = y) && decide (names.lookup x = some .free)
    | _, _ => false)
  | _ => true
structure CompSc (osc : Scope) (N N' : List Str) (cap : List (Option Nat)) (scope : Scope) : Prop where
  kind : scope.kind = .function
  nocell : ∀ y ∈ scope.names, y.2 ≠ .cell
  names : ∀ y ∈ scope.names, y.2 = .local → scope.names.lookup y.1 = some .local
  fr : ∀ y ∈ scope.names, y.2 = .free → osc.names.lookup y.1 = some .cell ∨ osc.names.lookup y.1 = some .free
  len : cap.length = N'.length
  cap : capOk N N' cap scope.names = true
theorem CompSc.to {X : Cx} {osc : Scope} {N N' : List Str} {cap : List (Option Nat)} {scope : Scope} (h : CompSc osc N N' cap scope) (h1 : X.env.scope = osc) (h2 : X.N = N) : CompScope X N' cap scope := by
  subst h1; subst h2
  refine ⟨h.kind, h.nocell, h.names, h.fr, h.len, fun i j e => ?_⟩
  have hi : i < cap.length := (List.getElem?_eq_some_iff.mp e).1
  have := List.all_eq_true.mp h.cap i (by simpa using hi)
  rw [e] at this
  dsimp only at this
  split at this
  · rename_i x y e1 e2
    rw [Bool.and_eq_true] at this
    have e3 : x = y := of_decide_eq_true this.1
    subst e3
    exact ⟨x, e1, e2, of_decide_eq_true this.2⟩
  · cases this
section
variable {X : Cx} {F0 H0 : Hp} {Ψ : Psi} {N N' : List Str} {osc scope : Scope} {cap : List (Option Nat)} {elt target iter c : Expr} {ifs : List Expr} {fi : Ev → RI} {b : B1} {f e : Ev → R} {S : List Nat} {pos : Pos}
def VF (X : Cx) (F0 H0 : Hp) (ifs : List Expr) (f : Ev → R) : Prop := PIfs X ifs (tVT X.K F0 H0 Psi0 f)
theorem vf_nil : VF X F0 H0 [] (conR (.bl true)) := fun pins s σ H Q I h => by
  obtain ⟨F, ev, fi, m⟩ := h
  exact pifs_nil pins s σ H Q I (m F H fi.refl)
theorem tSetC_of {K : PySem.W.Frag} {i : Nat} {cap : List (Option Nat)} {fi : Ev → RI} {b : B1} {c e : Ev → R} {S : List Nat} {E : Ends} {σ : L2.St} {H : Hp} (hB : BOnly S b) (hS : ∀ i ∈ S, cap[i]? = some none) (h : tSv K F0 H0 Ψ (setG i (eComp cap fi b c e)) E σ H) :
    tAsg (tLC cap (tVI K F0 H0 Ψ fi) (gV K F0 H0 b) (tVT K F0 H0 Psi0 c) (tV K F0 H0 Psi0 e)) (gName i) E σ H := tLC_of hB hS (tSet_of h)
theorem vs_comp (i : Nat) {x : Str} {py spos : Pos} (N' : List Str) (cap : List (Option Nat)) (S : List Nat) (hX : X.env.scope = osc) (hN : X.N = N) (nd : X.N.Nodup) (C : CompSc osc N N' cap scope) (hcalm : X.calm = true) (hi : VI X F0 H0 Ψ target iter fi) (hB : BOnly S b)
    (hb : ∀ C s H fp, VG (cxC X N' scope C s H fp) F0 H0 target b ∧ VF (cxC X N' scope C s H fp) F0 H0 ifs f ∧ VE (cxC X N' scope C s H fp) F0 H0 Psi0 elt e) (hS : ∀ i ∈ S, cap[i]? = some none := by decide)
    (hix : X.N[i]? = some x := by rfl) (hx : Loc X.env.scope x := by first | exact Or.inl rfl | exact Or.inr rfl) (hf : X.fn x = true ∨ X.env.scope.names.lookup x = some .local := by first | exact .inl rfl | exact .inr rfl)
    (hsw : swapsWith (.ListComp elt [⟨target, iter, ifs, 0⟩] scope pos) (some (.Name x py)) spos.line X.env = pure true := by rfl)
    (hs : ∀ x, foldedSetIterable iter X.env x = pure x := by intro _; rfl) : VS X F0 H0 Ψ (.Assign [.Name x py] (.ListComp elt [⟨target, iter, ifs, 0⟩] scope pos) spos) (setG i (eComp cap fi b f e)) :=
  (ps_lcomp (g := gV X.K F0 H0 b) (tc := tVT X.K F0 H0 Psi0 f) (te := tV X.K F0 H0 Psi0 e) hcalm (C.to hX hN) hi hb (pg_name nd hix hx hf) hsw hs).mono fun _ _ _ q => tSetC_of hB hS q
end
mutual
def py : D → Option PyData
  | .non => some .none
  | .bl b => some (.bool b)
  | .int i => some (.int i)
  | .str x => if PyData.strOk x = true then some (.str x) else none
  | .tup xs => (pyL xs).map .tuple
  | .lst xs => (pyL xs).map .list
  | .scr xs => (pyL xs).map .list
  | .dK _ _ => none
  | .dT _ _ => none
  | .obj _ _ _ => none
  | .ty _ => none
def pyL : List D → Option (List PyData)
  | [] => some []
  | d :: ds => (py d).bind fun p => (pyL ds).map (p :: ·)
end
section
variable {X : Cx} {pins : List (Addr × Obj)} {σ : L2.St} {H : Hp} {s : Shared}
mutual
theorem Rep.reads (I : Inv X pins σ H s) : ∀ {d : D} {v : V} {u : Value} {p : PyData}, Rep X.K H d v → RelV v u → py d = some p → ∃ as, Reads s.heap u p as ∧ p.canLay0 = true
  | .non, _, _, _, h, r, e => by rw [Rep] at h; subst h; rw [py] at e; cases e; cases r; exact ⟨[], .none, rfl⟩
  | .bl b, _, _, _, h, r, e => by rw [Rep] at h; subst h; rw [py] at e; cases e; cases r; exact ⟨[], .bool b, rfl⟩
  | .int i, _, _, _, h, r, e => by rw [Rep] at h; subst h; rw [py] at e; cases e; obtain ⟨t, rfl⟩ := r; exact ⟨[], .int i t, rfl⟩
  | .str x, _, _, _, h, r, e => by
    rw [Rep] at h; subst h; rw [py] at e
    split at e
    · rename_i hs; cases e; obtain ⟨t, rfl⟩ := r; exact ⟨[], .str x t, by simpa [PyData.canLay0] using hs⟩
    · cases e
  | .tup xs, _, _, _, h, r, e => by
    rw [Rep] at h; obtain ⟨a, vs, rfl, h2, h3⟩ := h
    rw [py] at e
    cases q : pyL xs with
    | none => rw [q] at e; cases e
    | some ps =>
      rw [q] at e; cases e
      cases r
      obtain ⟨its, rv, ⟨o, ho, hc, n, hd⟩, hz⟩ := I.tuple (SqT.of h2)
      obtain ⟨as, h4, h5⟩ := Reps.reads I h3 rv q
      exact ⟨as, .tuple ho hc hd (by simpa using h4), by simpa [PyData.canLay0] using h5⟩
  | .lst xs, _, _, _, h, r, e => by
    rw [Rep] at h; obtain ⟨a, vs, rfl, h2, h3⟩ := h
    rw [py] at e
    cases q : pyL xs with
    | none => rw [q] at e; cases e
    | some ps =>
      rw [q] at e; cases e
      cases r
      obtain ⟨its, rv, pl, hz⟩ := I.list (SqL.of h2)
      obtain ⟨o, ho, hc, n, hd⟩ := pl.isList
      obtain ⟨as, h4, h5⟩ := Reps.reads I h3 rv q
      exact ⟨a :: as, .list ho hc hd (by simpa using h4), by simpa [PyData.canLay0] using h5⟩
  | .scr xs, _, _, _, h, r, e => by
    rw [Rep] at h; obtain ⟨a, vs, rfl, h2, h3⟩ := h
    rw [py] at e
    cases q : pyL xs with
    | none => rw [q] at e; cases e
    | some ps =>
      rw [q] at e; cases e
      cases r
      obtain ⟨its, rv, pl, hz⟩ := I.list h2
      obtain ⟨o, ho, hc, n, hd⟩ := pl.isList
      obtain ⟨as, h4, h5⟩ := Reps.reads I h3 rv q
      exact ⟨a :: as, .list ho hc hd (by simpa using h4), by simpa [PyData.canLay0] using h5⟩
  | .dK _ _, _, _, _, _, _, e => by rw [py] at e; cases e
  | .dT _ _, _, _, _, _, _, e => by rw [py] at e; cases e
  | .obj _ _ _, _, _, _, _, _, e => by rw [py] at e; cases e
  | .ty _, _, _, _, _, _, e => by rw [py] at e; cases e
theorem Reps.reads (I : Inv X pins σ H s) : ∀ {ds : List D} {vs : List V} {us : List Value} {ps : List PyData}, Reps X.K H ds vs → Vals vs us → pyL ds = some ps → ∃ as, ReadsAll s.heap us ps as ∧ PyData.canLayAll0 ps = true
  | [], _, _, _, h, r, e => by rw [h.unnil] at r; cases r; rw [pyL] at e; cases e; exact ⟨[], .nil, rfl⟩
  | d :: ds, _, _, _, h, r, e => by
    obtain ⟨v, t, rfl, h1, h2⟩ := h.uncons
    cases r with
    | cons r1 r2 =>
      rw [pyL] at e
      cases q1 : py d with
      | none => rw [q1] at e; cases e
      | some p =>
        rw [q1] at e
        cases q2 : pyL ds with
        | none => rw [q2] at e; cases e
        | some ps =>
          rw [q2] at e
          cases e
          obtain ⟨as, g1, g2⟩ := Rep.reads I h1 r1 q1
          obtain ⟨bs, g3, g4⟩ := Reps.reads I h2 r2 q2
          exact ⟨as ++ bs, .cons g1 g3, by simp [PyData.canLayAll0, g2, g4]⟩
end
end
def DEEP : Nat := 60
def eqD : G2 := fun a b => match py a, py b with
  | some p, some q => if p.depth ≤ DEEP then some (.fz, .bl (p.eqv q)) else none
  | _, _ => none
def neD : G2 := fun a b => match py a, py b with
  | some p, some q => if p.depth ≤ DEEP then some (.fz, .bl (!p.eqv q)) else none
  | _, _ => none
def itemsD : D → Option (List D)
  | .lst xs => some xs
  | .scr xs => some xs
  | .tup xs => some xs
  | _ => none
def inL : G2 := fun a b => match py a, (itemsD b).bind pyL with
  | some p, some qs => if p.depth ≤ DEEP then some (.fz, .bl (qs.any fun q => q.eqv p)) else none
  | _, _ => none
def notInL : G2 := fun a b => match py a, (itemsD b).bind pyL with
  | some p, some qs => if p.depth ≤ DEEP then some (.fz, .bl (!qs.any fun q => q.eqv p)) else none
  | _, _ => none
section
variable {X : Cx}
def rP (K : PySem.W.Frag) (g : G2) : R2 := fun x y H Q => ∃ dx dy d, Rep K H dx x ∧ Rep K H dy y ∧ g dx dy = some (.fz, .bl d) ∧ Q (.bl d) H
theorem ok_P {K : PySem.W.Frag} {g : G2} (hg : ∀ a b k d, g a b = some (k, d) → ∃ t, k = .fz ∧ d = .bl t) : OkOp K (rP K g) g := by
  intro F H dx dy x y k d Q s rx ry e q
  obtain ⟨t, rfl, rfl⟩ := hg _ _ _ _ e
  exact ⟨dx, dy, t, rx.rep s, ry.rep s, e, q F _ H (.pure (.refl s) (by rw [Rep]))⟩
theorem eqD_bl (a b : D) (k : Kd) (d : D) (e : eqD a b = some (k, d)) : ∃ t, k = .fz ∧ d = .bl t := by
  unfold eqD at e; split at e
  · split at e
    · cases e; exact ⟨_, rfl, rfl⟩
    · cases e
  · cases e
theorem neD_bl (a b : D) (k : Kd) (d : D) (e : neD a b = some (k, d)) : ∃ t, k = .fz ∧ d = .bl t := by
  unfold neD at e; split at e
  · split at e
    · cases e; exact ⟨_, rfl, rfl⟩
    · cases e
  · cases e
theorem notInL_bl (a b : D) (k : Kd) (d : D) (e : notInL a b = some (k, d)) : ∃ t, k = .fz ∧ d = .bl t := by
  unfold notInL at e; split at e
  · split at e
    · cases e; exact ⟨_, rfl, rfl⟩
    · cases e
  · cases e
theorem c_eq (hu : X.A.units + 100 < cLine) : CmpOk X .Eq eqD := by
  refine ⟨rP X.K eqD, fun pins s σ H x y v u Q I rx ry h => ?_, ok_P eqD_bl⟩
  obtain ⟨dx, dy, t, hx, hy, e, q⟩ := h
  unfold eqD at e
  split at e
  · rename_i p q' e1 e2
    split at e
    · rename_i hd
      have e' : PyData.eqv p q' = t := by injection e with e; injection e with _ e; injection e
      obtain ⟨as, r1, c1⟩ := hx.reads I rx e1
      obtain ⟨bs, r2, c2⟩ := hy.reads I ry e2
      refine SeqAt.compareEq_reads r1 r2 c1 c2 (by have := Nat.min_le_left p.depth q'.depth; unfold DEEP at hd; omega) ?_
      rw [e']
      exact ⟨.bl t, H, I, rfl, q⟩
    · cases e
  · cases e
theorem c_ne (hu : X.A.units + 100 < cLine) : CmpOk X .NotEq neD := by
  refine ⟨rP X.K neD, fun pins s σ H x y v u Q I rx ry h => ?_, ok_P neD_bl⟩
  obtain ⟨dx, dy, t, hx, hy, e, q⟩ := h
  unfold neD at e
  split at e
  · rename_i p q' e1 e2
    split at e
    · rename_i hd
      have e' : (!PyData.eqv p q') = t := by injection e with e; injection e with _ e; injection e
      obtain ⟨as, r1, c1⟩ := hx.reads I rx e1
      obtain ⟨bs, r2, c2⟩ := hy.reads I ry e2
      refine SeqAt.compareNe_reads r1 r2 c1 c2 (by have := Nat.min_le_left p.depth q'.depth; unfold DEEP at hd; omega) ?_
      rw [e']
      exact ⟨.bl t, H, I, rfl, q⟩
    · cases e
  · cases e
theorem items_reads {pins : List (Addr × Obj)} {σ : L2.St} {H : Hp} {s : Shared} (I : Inv X pins σ H s) {d : D} {v : V} {u : Value} {xs : List D} {ps : List PyData} (h : Rep X.K H d v) (r : RelV v u) (e : itemsD d = some xs) (ep : pyL xs = some ps) :
    PyData.canLayAll0 ps = true ∧ ((∃ as, Reads s.heap u (.list ps) as) ∨ ∃ as, Reads s.heap u (.tuple ps) as) := by
  cases d <;> simp only [itemsD] at e <;> first | cases e | skip
  · obtain ⟨as, h1, h2⟩ := h.reads I r (show py (.tup xs) = some (.tuple ps) by rw [py, ep]; rfl)
    exact ⟨by simpa [PyData.canLay0] using h2, .inr ⟨as, h1⟩⟩
  · obtain ⟨as, h1, h2⟩ := h.reads I r (show py (.lst xs) = some (.list ps) by rw [py, ep]; rfl)
    exact ⟨by simpa [PyData.canLay0] using h2, .inl ⟨as, h1⟩⟩
  · obtain ⟨as, h1, h2⟩ := h.reads I r (show py (.scr xs) = some (.list ps) by rw [py, ep]; rfl)
    exact ⟨by simpa [PyData.canLay0] using h2, .inl ⟨as, h1⟩⟩
theorem c_notinL (hu : X.A.units + 100 < cLine) : CmpOk X .NotIn notInL := by
  refine ⟨rP X.K notInL, fun pins s σ H x y v u Q I rx ry h => ?_, ok_P notInL_bl⟩
  obtain ⟨dx, dy, t, hx, hy, e, q⟩ := h
  unfold notInL at e
  split at e
  · rename_i p qs e1 e2
    split at e
    · rename_i hd
      have e' : (!qs.any fun q => q.eqv p) = t := by injection e with e; injection e with _ e; injection e
      cases q1 : itemsD dy with
      | none => rw [q1] at e2; cases e2
      | some xs =>
        rw [q1] at e2
        obtain ⟨as, r1, c1⟩ := hx.reads I rx e1
        obtain ⟨c2, r2⟩ := items_reads I hy ry q1 e2
        have hu' : X.A.units + 1 + min (PyData.depthAll qs) p.depth < cLine := by have := Nat.min_le_right (PyData.depthAll qs) p.depth; unfold DEEP at hd; omega
        rcases r2 with ⟨bs, r2⟩ | ⟨bs, r2⟩
        · exact SeqAt.notIn_list_reads r2 r1 c2 c1 hu' (by rw [e']; exact ⟨.bl t, H, I, rfl, q⟩)
        · exact SeqAt.notIn_tuple_reads r2 r1 c2 c1 hu' (by rw [e']; exact ⟨.bl t, H, I, rfl, q⟩)
    · cases e
  · cases e
end
theorem room_u {k : Nat} {A : Around} (hr : Room k A) : A.units + 100 < cLine := by have := hr.un; omega
theorem len_s {P : List Value → Prop} {p : Str} {ps : List Str} (k : ∀ a l, l.length = ps.length → P (a :: l)) (us : List Value) (h : us.length = (p :: ps).length) : P us := by
  cases us with
  | nil => cases h
  | cons a l => exact k a l (Nat.succ.inj h)
theorem len_0 {P : List Value → Prop} (k : P []) (us : List Value) (h : us.length = ([] : List Str).length) : P us := by
  cases us with
  | nil => exact k
  | cons a l => cases h
end L3
set_option Elab.async false
set_option linter.all false
set_option maxRecDepth 100000
namespace L3
open PySem L2
def tyN : D → Option String
  | .non => some "NoneType"
  | .bl _ => some "bool"
  | .int _ => some "int"
  | .str _ => some "str"
  | .tup _ => some "tuple"
  | .lst _ => some "list"
  | .dK _ _ => some "dict"
  | .dT _ _ => some "dict"
  | _ => none
def isT (T : String) : D → Bool
  | .bl _ => T == "bool" || T == "int"
  | .int _ => T == "int"
  | .str _ => T == "str"
  | .tup _ => T == "tuple"
  | .lst _ => T == "list"
  | .dK _ _ => T == "dict"
  | .dT _ _ => T == "dict"
  | _ => false
def tysOk : List String := ["int", "bool", "str", "tuple", "list", "dict"]
def isiD : GN
  | [d, .ty T] => if (tyN d).isSome = true ∧ T ∈ tysOk then some (.fz, .bl (isT T d)) else none
  | _ => none
section
variable {K : PySem.W.Frag} {X : Cx}
variable {F0 H0 : Hp} {Ψ : Psi} {a b c e : Expr} {es : List Expr} {f f1 f2 f3 : Ev → R} {fs : Ev → RA} {pos p : Pos}
theorem v_min2 (hc : X.calm = true) (hm : X.mg "min" = none) (ha : VA X F0 H0 Ψ (e :: es) fs) (hgl : Gl X "min" := by rfl) (he : starEach (e :: es) X.env = (false, eval e X.env) :: starEach es X.env := by rfl) (hpl : (backTo pos (starEach es X.env)).any (·.1) = false := by rfl) : VE X F0 H0 Ψ (.Call (.Name "min" p) (e :: es) [] pos) (eCall min2D fs) := v_callB (call_min2 hc) ok_min2 hm (by rfl) ha hgl (by decide) (by decide) he hpl
theorem v_max2 (hc : X.calm = true) (hm : X.mg "max" = none) (ha : VA X F0 H0 Ψ (e :: es) fs) (hgl : Gl X "max" := by rfl) (he : starEach (e :: es) X.env = (false, eval e X.env) :: starEach es X.env := by rfl) (hpl : (backTo pos (starEach es X.env)).any (·.1) = false := by rfl) : VE X F0 H0 Ψ (.Call (.Name "max" p) (e :: es) [] pos) (eCall max2D fs) := v_callB (call_max2 hc) ok_max2 hm (by rfl) ha hgl (by decide) (by decide) he hpl
end
end L3
set_option Elab.async false
set_option linter.all false
set_option maxRecDepth 100000
namespace L3
open PySem L2
section
variable {κ : Type} [DecidableEq κ]
def dGet : List κ → List D → κ → Option D
  | k :: ks, x :: xs, q => if k = q then some x else dGet ks xs q
  | _, _, _ => none
def dPutK (ks : List κ) (k : κ) : List κ := if k ∈ ks then ks else ks ++ [k]
def dPutV (ks : List κ) (xs : List D) (k : κ) (d : D) : List D := if k ∈ ks then List.zipWith (fun k' x => if k' = k then d else x) ks xs else xs ++ [d]
variable {K : PySem.W.Frag} {F : Hp}
theorem val_get {k : κ} : ∀ {ks : List κ} {xs : List D} {vs : List V}, Reps K F xs vs → ks.length = vs.length → match dGet ks xs k with
    | some d => ∃ v, valV (ks.zip vs) k = some v ∧ Rep K F d v
    | none => valV (ks.zip vs) k = none
  | [], xs, vs, _, _ => by simp [dGet, valV_nil]
  | q :: ks, [], vs, r, h => by rw [r.unnil] at h; simp at h
  | q :: ks, x :: xs, _, r, h => by
    obtain ⟨v, vs, rfl, rv, rs⟩ := r.uncons
    rw [dGet, List.zip_cons_cons]
    by_cases e : q = k
    · rw [if_pos e, valV_pos e]; exact ⟨v, rfl, rv⟩
    · rw [if_neg e, valV_neg e]; exact val_get rs (by simpa using h)
theorem val_some {k : κ} {ks : List κ} {xs : List D} {vs : List V} {d : D} (r : Reps K F xs vs) (h : ks.length = vs.length) (e : dGet ks xs k = some d) : ∃ v, valV (ks.zip vs) k = some v ∧ Rep K F d v := by
  have := val_get (k := k) r h
  rw [e] at this; exact this
theorem val_isSome {k : κ} {ks : List κ} {xs : List D} {vs : List V} (r : Reps K F xs vs) (h : ks.length = vs.length) : (valV (ks.zip vs) k).isSome = (dGet ks xs k).isSome := by
  have := val_get (k := k) r h
  cases e : dGet ks xs k with
  | none => rw [e] at this; rw [this]; rfl
  | some d => rw [e] at this; obtain ⟨v, e, _⟩ := this; rw [e]; rfl
end
def keyD : D → Option Key
  | .int i => some (.inl i)
  | .str x => some (.inr x)
  | _ => none
def keysD : List D → Option (List Key)
  | [] => some []
  | d :: ds => (keyD d).bind fun k => (keysD ds).map (k :: ·)
section
variable {K : PySem.W.Frag} {F H : Hp}
theorem key_is {d : D} {k : Key} {v : V} (e : keyD d = some k) (r : RdV K F H d v) : v = kV k := by
  cases d <;> simp only [keyD] at e <;> cases e
  · rw [r.int]; rfl
  · rw [r.str]; rfl
theorem keys_are : ∀ {ds : List D} {ks : List Key} {vs : List V}, keysD ds = some ks → Reps K F ds vs → vs = ks.map kV
  | [], _, _, e, r => by cases e; rw [r.unnil]; rfl
  | d :: ds, ks, _, e, r => by
    obtain ⟨v, vs, rfl, rv, rs⟩ := r.uncons
    simp only [keysD] at e
    cases e1 : keyD d with
    | none => rw [e1] at e; cases e
    | some k =>
      rw [e1] at e
      cases e2 : keysD ds with
      | none => rw [e2] at e; cases e
      | some ks' =>
        rw [e2] at e; cases e
        rw [keys_are e2 rs, key_is (H := F) e1 (.inl rv)]; rfl
theorem RdV.dK {ks : List Key} {xs : List D} {v : V} (s : Same F H) (h : RdV K F H (.dK ks xs) v) : ∃ a vs, v = .ref a ∧ H a = some (.dK (ks.zip vs)) ∧ ks.length = vs.length ∧ Reps K F xs vs := by
  rcases h with h | ⟨a, h1, vs, h⟩
  · rw [Rep] at h
    obtain ⟨a, vs, h1, h2, h3⟩ := h
    exact ⟨a, vs, h1, s _ _ h2, h3⟩
  · exact ⟨a, vs, h1, h⟩
theorem RdV.dT {ks : List (List Key)} {xs : List D} {v : V} (s : Same F H) (h : RdV K F H (.dT ks xs) v) : ∃ a vs, v = .ref a ∧ H a = some (.dT (ks.zip vs)) ∧ ks.length = vs.length ∧ Reps K F xs vs := by
  rcases h with h | ⟨a, h1, vs, h⟩
  · rw [Rep] at h
    obtain ⟨a, vs, h1, h2, h3⟩ := h
    exact ⟨a, vs, h1, s _ _ h2, h3⟩
  · exact ⟨a, vs, h1, h⟩
def lookD : D → D → Option (Option D)
  | .dK ks xs, d => (keyD d).map (dGet ks xs)
  | .dT ks xs, .tup l => (keysD l).map (dGet ks xs)
  | _, _ => none
theorem look_get {a b : D} {o : Option D} {x y : V} (s : Same F H) (e : lookD a b = some o) (rx : RdV K F H a x) (ry : RdV K F H b y) : ∃ p ov, x = .ref p ∧ DGet H p y ov ∧ (∀ d, o = some d → ∃ v, ov = some v ∧ Rep K F d v) ∧ ov.isSome = o.isSome := by
  cases a with
  | dK ks xs =>
    obtain ⟨p, vs, rfl, h1, h2, h3⟩ := rx.dK s
    simp only [lookD] at e
    cases e1 : keyD b with
    | none => rw [e1] at e; cases e
    | some k =>
      rw [e1] at e; cases e
      rw [key_is e1 ry]
      exact ⟨p, _, rfl, .k h1, fun d e => val_some h3 h2 e, val_isSome h3 h2⟩
  | dT ks xs =>
    obtain ⟨p, vs, rfl, h1, h2, h3⟩ := rx.dT s
    cases b with
    | tup l =>
      simp only [lookD] at e
      cases e1 : keysD l with
      | none => rw [e1] at e; cases e
      | some k =>
        rw [e1] at e; cases e
        obtain ⟨q, us, rfl, g1, g2⟩ := ry.tup s
        rw [keys_are e1 g2] at g1
        exact ⟨p, _, rfl, .t h1 g1, fun d e => val_some h3 h2 e, val_isSome h3 h2⟩
    | _ => cases e
  | _ => cases e
def getK : G2 := fun a b => match lookD a b with
  | some (some d) => some (.fz, d)
  | _ => none
def rDGet : R2 := fun x y H Q => ∃ a v, x = .ref a ∧ DGet H a y (some v) ∧ Q v H
theorem ok_getK : OkOp K rDGet getK := by
  intro F H dx dy x y k d Q s rx ry e q
  unfold getK at e
  split at e
  · rename_i d' e1
    cases e
    obtain ⟨p, ov, rfl, g, h, _⟩ := look_get s e1 rx ry
    obtain ⟨v, rfl, rv⟩ := h d rfl
    exact ⟨p, v, rfl, g, q F v H (.pure (.refl s) rv)⟩
  · cases e
variable {X : Cx}
open PySem.Spec PyProof.Rows in
theorem ix_dict (hu : X.A.units + 1 < cLine) : IxR X rDGet := by
  intro value slice pins s σ H x y v u Q I rx ry h hs
  obtain ⟨a, w', rfl, g, q⟩ := h
  obtain rfl : v = Value.ref a := rx
  have hT := dict_typeIs I g
  unfold subscriptTail
  refine wpAny_bind ?_
  rw [getitemInPython_of_ne hT.not_modules]
  refine wpAny_bind (wpAny_specialOf hT PySem.F.slot_dict_getitem.lookup ?_)
  have fin : wpAny (model X.prog X.w) X.A (subscripted slice false (.ref a) u) (fun r s₃ => wpAny (model X.prog X.w) X.A (letTemporaryGo value (.ref a) r >>= fun _ => pure r) (EP X pins σ Q) X.xe s₃) X.xe s := by
    rw [hs]
    exact wpAny_operating (wpAny_mono (d_getItem hu I g ry fun w'' s' I' rw' => (⟨w', H, I', rw', q⟩ : EP X pins σ Q w'' s')) (fun r s₃ h₃ => wpAny_bind (wpAny_letTemporaryGo (wpAny_pure h₃))) fun _ _ x => x)
  first
    | exact wpAny_pure (wpAny_bind fin)
    | exact wpAny_bind (wpAny_pure (wpAny_bind fin))
    | exact wpAny_bind fin
def idxD : G2 := fun a b => (idxL a b).or (getK a b)
theorem v_idx {F0 H0 : Hp} {Ψ : Psi} {a b : Expr} {f1 f2 : Ev → R} {pos : Pos} (hu : X.A.units + 100 < cLine) (ha : VE X F0 H0 Ψ a f1) (hb : VE X F0 H0 Ψ b f2) (hs : PlainIx b := by exact fun _ _ => rfl) : VE X F0 H0 Ψ (.Subscript a b pos) (eOp idxD f1 f2) := (pe_ix (ix_seq.or (ix_dict (by omega))) ha hb hs).mono fun _ _ _ h => tOp_of (ok_idxL.or ok_getK) h
def hasK : G2 := fun a b => (lookD b a).map fun o => (.fz, .bl o.isSome)
def hasNotK : G2 := fun a b => (lookD b a).map fun o => (.fz, .bl !o.isSome)
theorem ok_hasNotK : OkOp K (fun y x H Q => ∃ a o, x = .ref a ∧ DGet H a y o ∧ Q (.bl (!o.isSome)) H) hasNotK := by
  intro F H dx dy x y k d Q s rx ry e q
  unfold hasNotK at e
  cases e1 : lookD dy dx with
  | none => rw [e1] at e; cases e
  | some o =>
    rw [e1] at e; cases e
    obtain ⟨p, ov, rfl, g, _, h⟩ := look_get s e1 ry rx
    exact ⟨p, ov, rfl, g, by rw [h]; exact q F _ H (.pure (.refl s) (by rw [Rep]))⟩
theorem OpR.or' {f : Value → Value → Sem Value} {r r' : R2} (h : OpR X f r) (h' : OpR X f r') : OpR X f (fun x y H Q => r x y H Q ∨ r' x y H Q) := by
  intro pins s σ H x y v u Q I rx ry q
  rcases q with q | q
  · exact h pins s σ H x y v u Q I rx ry q
  · exact h' pins s σ H x y v u Q I rx ry q
theorem op_hasNotK (hu : X.A.units + 1 < cLine) : OpR X (compareOp .NotIn) (fun y x H Q => ∃ a o, x = .ref a ∧ DGet H a y o ∧ Q (.bl (!o.isSome)) H) := by
  intro pins s σ H x y v u Q I rx ry h
  obtain ⟨a, o, rfl, g, q⟩ := h
  obtain rfl : u = Value.ref a := ry
  exact d_notIn hu I g rx fun s' I' => ⟨.bl (!o.isSome), H, I', rfl, q⟩
def inD : G2 := fun a b => (inL a b).or (hasK a b)
def notInD : G2 := fun a b => (notInL a b).or (hasNotK a b)
theorem c_notin (hu : X.A.units + 100 < cLine) : CmpOk X .NotIn notInD := let ⟨_, h1, h2⟩ := c_notinL hu; ⟨_, OpR.or' h1 (op_hasNotK (by omega)), h2.or ok_hasNotK⟩
variable {F0 H0 : Hp} {Ψ : Psi} {σ : St} {pos : Pos}
end
end L3
set_option Elab.async false
set_option linter.all false
set_option maxRecDepth 100000
namespace L3
open PySem L2
section
variable {X : Cx} {K : PySem.W.Frag} {F0 H0 F H F' H' : Hp} {Ψ : Psi} {σ : St} {ev : Ev}
def setDG (i : Nat) (f v : Ev → R) (ev : Ev) : Fl := match v ev with
  | .ok .bo _ => .no
  | .ok _ d => match ev[i]? with
    | some (some (.ow, .dK ks xs)) => match f ev with
      | .ok _ kd => match keyD kd with
        | some k => if ks.length < LIM then .nx (ev.set i (some (.ow, .dK (dPutK ks k) (dPutV ks xs k d)))) else .no
        | none => .no
      | .ex C => .ex C
      | .no => .no
    | some (some (.ow, .dT ks xs)) => match f ev with
      | .ok _ (.tup l) => match keysD l with
        | some k => if ks.length < LIM then .nx (ev.set i (some (.ow, .dT (dPutK ks k) (dPutV ks xs k d)))) else .no
        | none => .no
      | .ex C => .ex C
      | _ => .no
    | _ => .no
  | .ex C => .ex C
  | .no => .no
def isLst : Option (Option (Kd × D)) → Bool
  | some (some (.ow, .lst _)) => true
  | _ => false
def setItG (i : Nat) (f v : Ev → R) (ev : Ev) : Fl := if isLst ev[i]? = true then setLG i f v ev else setDG i f v ev
variable {e i' : Expr} {f v : Ev → R} {x : Str} {p apos cpos pos : Pos}
theorem PS.or {st : Stmt} {t t' : TS} (h : PS X st t) (h' : PS X st t') : PS X st (fun D σ H => t D σ H ∨ t' D σ H) := fun pins s σ H D I q => by
  rcases q with q | q
  · exact h pins s σ H D I q
  · exact h' pins s σ H D I q
def dispR (rk rv : R) : R := match rk with
  | .ok _ kd => match rv with
    | .ok .bo _ => .no
    | .ok _ d => match keyD kd with
      | some k => .ok .ow (.dK [k] [d])
      | none => .no
    | .ex C => .ex C
    | .no => .no
  | .ex C => .ex C
  | .no => .no
def eDisp1 (fk fv : Ev → R) (ev : Ev) : R := dispR (fk ev) (fv ev)
abbrev G1 := D → Option (Kd × D)
def un1 (g : G1) : R → R
  | .ok _ a => toR (g a)
  | r => r
def eUn (g : G1) (f : Ev → R) (ev : Ev) : R := un1 g (f ev)
def negD : G1
  | .int i => some (.fz, .int (-i))
  | _ => none
def chnR (g g' : G2) (r1 r2 : R) (r3 : R) : R := match r1 with
  | .ok _ a => match r2 with
    | .ok _ b => match g a b with
      | some (_, .bl t) => if t then op2 g' r2 r3 else .ok .fz (.bl false)
      | _ => .no
    | r => r
  | r => r
def eChain (g g' : G2) (f1 f2 f3 : Ev → R) (ev : Ev) : R := chnR g g' (f1 ev) (f2 ev) (f3 ev)
theorem tChain_of {r r' : R2} {g g' : G2} {f1 f2 f3 : Ev → R} {Q : VK} (ho : OkOp K r g) (ho' : OkOp K r' g') (h : tV K F0 H0 Ψ (eChain g g' f1 f2 f3) σ H Q) : tChain r r' (tV K F0 H0 Ψ f1) (tV K F0 H0 Ψ f2) (tV K F0 H0 Ψ f3) σ H Q := by
  obtain ⟨F, ev, fi, m⟩ := h
  refine ⟨F, ev, fi, ?_⟩
  simp only [eChain] at m
  cases h1 : f1 ev with
  | no => rw [h1] at m; exact m
  | ex C => rw [h1] at m; exact m
  | ok k1 d1 =>
    rw [h1] at m
    intro F1 x H1 p1
    refine ⟨F1, ev, fi.later p1.st, ?_⟩
    cases h2 : f2 ev with
    | no => rw [h2] at m; exact m
    | ex C => rw [h2] at m; exact m
    | ok k2 d2 =>
      rw [h2] at m
      intro F2 y H2 p2
      simp only [chnR] at m
      have s12 := p1.st.trans p2.st
      cases e : g d1 d2 with
      | none => rw [e] at m; exact m.elim
      | some z =>
        obtain ⟨k, d⟩ := z
        rw [e] at m
        cases d with
        | bl t =>
          refine ho F2 H2 d1 d2 x y k (.bl t) _ p2.st.sub (p1.val.rd.later p2.st) p2.val.rd e fun F3 v3 H3 p3 => ⟨t, p3.val.rd.bl, ?_⟩
          have s3 := s12.trans p3.st
          cases t with
          | false =>
            rw [if_neg Bool.false_ne_true]
            exact m F3 _ H3 ⟨s3, by rw [Val, Rep]⟩
          | true =>
            rw [if_pos rfl]
            refine ⟨F3, ev, fi.later s3, ?_⟩
            have m : match op2 g' (.ok k2 d2) (f3 ev) with
              | .ok k d => ∀ F' v H', Post K F H k d F' v H' → Q v H'
              | .ex C => ∀ F' H', Step F0 H0 F' H' → Ψ C H'
              | .no => False := m
            cases h3 : f3 ev with
            | no => rw [h3] at m; exact m
            | ex C => rw [h3] at m; exact m
            | ok k4 d4 =>
              rw [h3] at m
              intro F4 w' H4 p4
              have m : match toR (g' d2 d4) with
                | .ok k d => ∀ F' v H', Post K F H k d F' v H' → Q v H'
                | .ex C => ∀ F' H', Step F0 H0 F' H' → Ψ C H'
                | .no => False := m
              cases e' : g' d2 d4 with
              | none => rw [e'] at m; exact m.elim
              | some z =>
                obtain ⟨k5, d5⟩ := z
                rw [e'] at m
                have s4 := s3.trans p4.st
                exact ho' F4 H4 d2 d4 y w' k5 d5 Q p4.st.sub ((p2.val.rd.later p3.st).later p4.st) p4.val.rd e' fun F5 v5 H5 p5 => m F5 v5 H5 ⟨s4.trans p5.st, p5.val.early s4.keep⟩
        | _ => exact m.elim
theorem v_chain {a b c : Expr} {op op' : CmpOp} {g g' : G2} {f1 f2 f3 : Ev → R} (hc : CmpOk X op g) (hc' : CmpOk X op' g') (ha : VE X F0 H0 Ψ a f1) (hb : VE X F0 H0 Ψ b f2) (hd : VE X F0 H0 Ψ c f3) (hm : lastMarks [op, op'] [b, c] = false := by with_unfolding_all rfl) :
    VE X F0 H0 Ψ (.Compare a [op, op'] [b, c] pos) (eChain g g' f1 f2 f3) := let ⟨_, ho, hg⟩ := hc; let ⟨_, ho', hg'⟩ := hc'; (pe_chain ho ho' ha hb hd hm).mono fun _ _ _ h => tChain_of hg hg' h
theorem vt_chain {a b c : Expr} {op op' : CmpOp} {g g' : G2} {f1 f2 f3 : Ev → R} (hc : CmpOk X op g) (hc' : CmpOk X op' g') (ha : VE X F0 H0 Ψ a f1) (hb : VE X F0 H0 Ψ b f2) (hd : VE X F0 H0 Ψ c f3) (hm : lastMarks [op, op'] [b, c] = false := by with_unfolding_all rfl) :
    VT X F0 H0 Ψ (.Compare a [op, op'] [b, c] pos) (eChain g g' f1 f2 f3) := let ⟨_, ho, hg⟩ := hc; let ⟨_, ho', hg'⟩ := hc'; (pt_chain ho ho' ha hb hd hm).mono fun σ H Q h => by
    obtain ⟨F, ev, fi, m⟩ := h
    exact tChain_of (K := X.K) (F0 := F0) (H0 := H0) (Ψ := Ψ) (f1 := f1) (f2 := f2) (f3 := f3) hg hg' (Q := fun x H' => ∃ k, x = .bl k ∧ Q k H') (by
      refine ⟨F, ev, fi, ?_⟩
      cases q : eChain g g' f1 f2 f3 ev with
      | no => rw [q] at m; exact m
      | ex C => rw [q] at m; exact m
      | ok k d =>
        rw [q] at m
        intro F' v H' p
        cases d with
        | bl b => exact ⟨b, p.val.rd.bl, m F' H' p.st⟩
        | _ => exact m.elim)
def absD : GN
  | [.int i] => some (.fz, .int (if i < 0 then -i else i))
  | _ => none
end
end L3
set_option Elab.async false
set_option linter.all false
set_option maxRecDepth 100000
namespace L2
open PySem PySem.Spec PyProof.Rows
section
variable {X : Cx} {e st : Expr} {te ts : TE} {pos p2 : Pos}
end
end L2
namespace L3
open PySem L2
section
variable {X : Cx} {K : PySem.W.Frag} {F0 H0 F H F' H' : Hp} {Ψ : Psi} {σ : St} {ev : Ev}
def stepD : G2
  | .lst xs, .int k => if k = 1 then some (.ow, .lst xs) else if k = -1 then some (.ow, .lst xs.reverse) else none
  | .scr xs, .int k => if k = 1 then some (.ow, .lst xs) else if k = -1 then some (.ow, .lst xs.reverse) else none
  | _, _ => none
def cutG {α : Type} (xs : List α) (lo hi : Option Int) : List α := (xs.drop (HT.sIx xs.length 0 lo)).take (HT.sIx xs.length xs.length hi - HT.sIx xs.length 0 lo)
theorem Reps.cut {ds : List D} {vs : List V} (r : Reps K F ds vs) (lo hi : Option Int) : Reps K F (cutG ds lo hi) (cutV vs lo hi) := by
  unfold cutG cutV
  rw [r.length]
  exact (r.drop _).take _
def slD : D → Option Int → Option Int → Option (Kd × D)
  | .lst xs, lo, hi => some (.ow, .lst (cutG xs lo hi))
  | .scr xs, lo, hi => some (.ow, .lst (cutG xs lo hi))
  | .tup xs, lo, hi => if ¬ (HT.sIx xs.length 0 lo = 0 ∧ HT.sIx xs.length xs.length hi = xs.length) then some (.fz, .tup (cutG xs lo hi)) else none
  | _, _, _ => none
inductive RO where | ok (o : Option Int) | ex (C : Addr) | no
def oNo (_ : Ev) : RO := .ok none
def oS : R → RO
  | .ok _ (.int i) => .ok (some i)
  | .ex C => .ex C
  | _ => .no
def oSome (f : Ev → R) (ev : Ev) : RO := oS (f ev)
def tVO (K : PySem.W.Frag) (F0 H0 : Hp) (Ψ : Psi) (f : Ev → RO) : TO := fun σ H Q => ∃ F ev, FI K F0 H0 F H ev σ ∧ match f ev with
  | .ok o => ∀ F' H', Step F H F' H' → Q o H'
  | .ex C => ∀ F' H', Step F0 H0 F' H' → Ψ C H'
  | .no => False
def VO (X : Cx) (F0 H0 : Hp) (Ψ : Psi) (e : Option Expr) (f : Ev → RO) : Prop := PO X e (tVO X.K F0 H0 Ψ f)
theorem PO.mono' {e : Option Expr} {t t' : TO} (h : PO X e t) (i : ∀ σ H Q, t' σ H Q → t σ H Q) : PO X e t' := fun pins s σ H Q I q => h pins s σ H Q I (i σ H Q q)
theorem vo_none : VO X F0 H0 Ψ none oNo := PO.mono' po_none fun σ H Q h => by
  obtain ⟨F, ev, fi, m⟩ := h
  exact m F H fi.refl
theorem vo_some {e : Expr} {f : Ev → R} (h : VE X F0 H0 Ψ e f) : VO X F0 H0 Ψ (some e) (oSome f) := PO.mono' (po_some h) fun σ H Q h => by
  obtain ⟨F, ev, fi, m⟩ := h
  refine ⟨F, ev, fi, ?_⟩
  simp only [oSome] at m
  cases h1 : f ev with
  | no => rw [h1] at m; exact m
  | ex C => rw [h1] at m; exact m
  | ok k d =>
    rw [h1] at m
    intro F1 x H1 p
    cases d with
    | int i => exact ⟨i, p.val.rd.int, m F1 H1 p.st⟩
    | _ => exact m.elim
def slR (r : R) (lo hi : RO) : R := match r with
  | .ok _ d => match lo with
    | .ok l => match hi with
      | .ok h => toR (slD d l h)
      | .ex C => .ex C
      | .no => .no
    | .ex C => .ex C
    | .no => .no
  | r => r
def eSl (f : Ev → R) (fl fh : Ev → RO) (ev : Ev) : R := slR (f ev) (fl ev) (fh ev)
theorem v_sl {e : Expr} {lo hi : Option Expr} {f : Ev → R} {fl fh : Ev → RO} {p2 pos : Pos} (he : VE X F0 H0 Ψ e f) (hl : VO X F0 H0 Ψ lo fl) (hh : VO X F0 H0 Ψ hi fh) : VE X F0 H0 Ψ (.Subscript e (.Slice lo hi none p2) pos) (eSl f fl fh) :=
  (pe_slice (sl_list.or sl_tup) he hl hh).mono fun σ H Q h => by
    obtain ⟨F, ev, fi, m⟩ := h
    refine ⟨F, ev, fi, ?_⟩
    simp only [eSl] at m
    cases h1 : f ev with
    | no => rw [h1] at m; exact m
    | ex C => rw [h1] at m; exact m
    | ok k d =>
      rw [h1] at m
      intro F1 x H1 p1
      refine ⟨F1, ev, fi.later p1.st, ?_⟩
      simp only [slR] at m
      cases h2 : fl ev with
      | no => rw [h2] at m; exact m
      | ex C => rw [h2] at m; exact m
      | ok l =>
        rw [h2] at m
        intro F2 H2 s2
        refine ⟨F2, ev, (fi.later p1.st).later s2, ?_⟩
        cases h3 : fh ev with
        | no => rw [h3] at m; exact m
        | ex C => rw [h3] at m; exact m
        | ok hh' =>
          rw [h3] at m
          intro F3 H3 s3
          have m : match toR (slD d l hh') with
            | .ok k d => ∀ F' v H', Post X.K F H k d F' v H' → Q v H'
            | .ex C => ∀ F' H', Step F0 H0 F' H' → Ψ C H'
            | .no => False := m
          have st := (p1.st.trans s2).trans s3
          have rx := (p1.val.rd.later s2).later s3
          cases d with
          | lst xs =>
            obtain ⟨a, vs, rfl, h4, h5⟩ := rx.lst st.sub
            refine .inl ⟨a, vs, rfl, SqL.of h4, fun p hp => m F3 _ _ (Post.own st hp fun H2 e => ⟨_, e, h5.cut _ _⟩)⟩
          | scr xs =>
            obtain ⟨a, vs, rfl, h4, h5⟩ := rx.scr st.sub
            refine .inl ⟨a, vs, rfl, h4, fun p hp => m F3 _ _ (Post.own st hp fun H2 e => ⟨_, e, h5.cut _ _⟩)⟩
          | tup xs =>
            obtain ⟨a, vs, rfl, h4, h5⟩ := rx.tup st.sub
            simp only [slD] at m
            split at m
            · rename_i k' d' e'
              split at e'
              · rename_i hw
                cases e'
                refine .inr ⟨a, vs, rfl, SqT.of h4, by rw [← h5.length]; exact hw, fun p hp => ?_⟩
                obtain ⟨F4, p4⟩ := Post.made (K := X.K) (d := .tup (cutG xs l hh')) (o := .tup (cutV vs l hh')) st hp fun F2 up e => by rw [Rep]; exact ⟨p, _, rfl, e, (h5.cut l hh').mono up⟩
                exact m F4 _ _ p4
              · cases e'
            · rename_i e'; split at e' <;> cases e'
            · exact m.elim
          | _ => exact m.elim
def mulS : G2
  | .str x, .int n => if 0 ≤ n ∧ n ≤ 1000 ∧ x.length ≤ 1000 then some (.fz, .str (Txt.mul x n)) else none
  | _, _ => none
def rMulS : R2 := fun x y H Q => ∃ z n, x = .str z ∧ y = .int n ∧ 0 ≤ n ∧ n ≤ 1000 ∧ z.length ≤ 1000 ∧ Q (.str (Txt.mul z n)) H
theorem mulOk_small {x : Str} {n : Int} (h0 : 0 ≤ n) (h1 : n ≤ 1000) (hx : x.length ≤ 1000) : MulOk x n := by
  refine ⟨?_, fun hn _ => ?_, fun hn _ => ?_⟩
  · simp; omega
  · have h2 : (x.length : Int) ≤ 1000 := by omega
    have h3 : (2 ^ 63 - 1 : Int) / n ≥ 1000 := by
      refine Int.le_ediv_of_mul_le (by omega) ?_
      have : (1000 : Int) * n ≤ 1000 * 1000 := Int.mul_le_mul_of_nonneg_left h1 (by decide)
      omega
    omega
  · have h2 : x.length * n.toNat ≤ 1000 * 1000 := Nat.mul_le_mul hx (by omega)
    simp only [Builtin.Str.tooLong]
    have := sizeLine_ge
    simp
    omega
theorem op_mulS : OpR X (binaryOp .Mult) rMulS := by
  intro pins s σ H x y v u Q I rx ry h
  obtain ⟨z, n, rfl, rfl, h0, h1, hz, q⟩ := h
  obtain ⟨t, rfl⟩ := rx
  obtain ⟨t', rfl⟩ := ry
  exact SB.mul (mulOk_small h0 h1 hz) fun t'' k => ⟨.str (Txt.mul z n), H, I.tok k, ⟨t'', rfl⟩, q⟩
theorem ok_mulS : OkOp K rMulS mulS := by
  intro F H dx dy x y k d Q s rx ry e q
  unfold mulS at e
  split at e <;> first | (cases e; done) | skip
  rename_i z n
  split at e
  · rename_i hc
    cases e
    exact ⟨z, n, rx.str, ry.int, hc.1, hc.2.1, hc.2.2, q F _ H (.pure (.refl s) (by rw [Rep]))⟩
  · cases e
def mulD : G2 := fun a b => (mulL a b).or (mulS a b)
theorem v_mul {a b : Expr} {f1 f2 : Ev → R} {pos : Pos} (ha : VE X F0 H0 Ψ a f1) (hb : VE X F0 H0 Ψ b f2) : VE X F0 H0 Ψ (.BinOp a .Mult b pos) (eOp mulD f1 f2) := v_bin (OpR.or' op_mul2 op_mulS) (ok_mulL.or ok_mulS) ha hb
def lenD : GN := lenL
theorem v_len {e : Expr} {fs : Ev → RA} {p pos : Pos} (hm : X.mg "len" = none) (ha : VA X F0 H0 Ψ [e] fs) (hgl : Gl X "len" := by rfl) (he : starEach [e] X.env = (false, eval e X.env) :: starEach [] X.env := by rfl) : VE X F0 H0 Ψ (.Call (.Name "len" p) [e] [] pos) (eCall lenD fs) := v_lenL hm ha hgl he
end
end L3
set_option Elab.async false
set_option linter.all false
set_option maxRecDepth 100000
namespace L2
open PySem PySem.Spec PyProof.Rows
section
variable {X : Cx} {pins : List (Addr × Obj)} {σ : St} {H : Hp} {s : Shared} {h' : Heap}
end
section
variable {X : Cx}
end
end L2
namespace L3
open PySem L2
section
variable {X : Cx} {F0 H0 : Hp} {Ψ : Psi}
def lsF : Kd × D → Option (List D)
  | (.fz, .lst xs) => some xs
  | _ => none
def zipO : Option (List D) → Option (List D) → RI
  | some xs, some ys => .ok (List.zipWith (fun x y => .tup [x, y]) xs ys)
  | _, _ => .no
def zipR : RA → RI
  | .ok l => match l with
    | [a, b] => zipO (lsF a) (lsF b)
    | _ => .no
  | .ex C => .ex C
  | .no => .no
def iZip2 (f : Ev → RA) (ev : Ev) : RI := zipR (f ev)
end
end L3
set_option Elab.async false
set_option linter.all false
set_option maxRecDepth 100000
namespace ST
open PySem PySem.SetTable
def lcg (x : Nat) : Nat := 5 * x + 1
def it (f : Nat → Nat) : Nat → Nat → Nat
  | 0, x => x
  | n + 1, x => it f n (f x)
theorem it_add (f : Nat → Nat) : ∀ a b x, it f (a + b) x = it f b (it f a x)
  | 0, b, x => by rw [Nat.zero_add]; rfl
  | a + 1, b, x => by rw [show a + 1 + b = (a + b) + 1 by omega]; exact it_add f a b (f x)
theorem lcg_pow : ∀ k, ∃ a b : Nat, ∀ z, it lcg (2 ^ k) z = (1 + 4 * 2 ^ k * a) * z + 2 ^ k * (1 + 2 * b)
  | 0 => ⟨1, 0, fun z => by show 5 * z + 1 = _; omega⟩
  | k + 1 => by
    obtain ⟨a, b, h⟩ := lcg_pow k
    refine ⟨a + 2 * 2 ^ k * a * a, b + 2 ^ k * a + 2 * b * 2 ^ k * a, fun z => ?_⟩
    rw [show (2 : Nat) ^ (k + 1) = 2 ^ k + 2 ^ k by omega, it_add, h, h]
    generalize 2 ^ k = c
    grind
theorem lcg_all : ∀ k x y, ∃ r, r < 2 ^ k ∧ it lcg r x % 2 ^ k = y % 2 ^ k
  | 0, x, y => ⟨0, by simp, by simp [Nat.mod_one]⟩
  | k + 1, x, y => by
    obtain ⟨r, hr, e⟩ := lcg_all k x y
    obtain ⟨a, b, h⟩ := lcg_pow k
    by_cases e2 : it lcg r x % 2 ^ (k + 1) = y % 2 ^ (k + 1)
    · exact ⟨r, by omega, e2⟩
    · refine ⟨r + 2 ^ k, by omega, ?_⟩
      rw [it_add, h]
      generalize it lcg r x = z at *
      rw [show (2 : Nat) ^ (k + 1) = 2 * 2 ^ k by omega] at *
      have hc : 0 < 2 ^ k := Nat.pow_pos (by decide)
      generalize 2 ^ k = c at *
      have h1 : ((1 + 4 * c * a) * z + c * (1 + 2 * b)) % (2 * c) = (z + c) % (2 * c) := by
        rw [show (1 + 4 * c * a) * z + c * (1 + 2 * b) = (z + c) + 2 * c * (2 * a * z + b) by grind, Nat.add_mul_mod_self_left]
      rw [h1]
      have hz := Nat.div_add_mod z (2 * c)
      have hy := Nat.div_add_mod y (2 * c)
      have e3 : z % (2 * c) % c = y % (2 * c) % c := by rw [Nat.mod_mod_of_dvd _ ⟨2, by omega⟩, Nat.mod_mod_of_dvd _ ⟨2, by omega⟩]; exact e
      have l1 := Nat.mod_lt z (show 0 < 2 * c by omega)
      have l2 := Nat.mod_lt y (show 0 < 2 * c by omega)
      rw [Nat.add_mod, show c % (2 * c) = c from Nat.mod_eq_of_lt (by omega)]
      generalize z % (2 * c) = u at *
      generalize y % (2 * c) = v at *
      have key : ∀ w, w < 2 * c → w % c = if w < c then w else w - c := fun w hw => by
        split
        · exact Nat.mod_eq_of_lt (by assumption)
        · rw [Nat.mod_eq_sub_mod (by omega), Nat.mod_eq_of_lt (by omega)]
      rw [key u l1, key v l2] at e3
      by_cases hu : u < c
      · rw [Nat.mod_eq_of_lt (by omega)]
        rw [if_pos hu] at e3
        split at e3 <;> omega
      · rw [Nat.mod_eq_sub_mod (by omega), Nat.mod_eq_of_lt (by omega)]
        rw [if_neg hu] at e3
        split at e3 <;> omega
def adv (m : Nat) (p : Probe) : Probe :=
  if p.more > 0 then { p with j := p.j + 1, more := p.more - 1 } else
  { p with j := (leap m p.i p.perturb).1, more := runEnd m (leap m p.i p.perturb).1 - (leap m p.i p.perturb).1, i := (leap m p.i p.perturb).1, perturb := (leap m p.i p.perturb).2 }
def st0 (m : Nat) (h : Int) : Probe := { j := bits h % (m + 1), more := runEnd m (bits h % (m + 1)) - bits h % (m + 1), i := bits h % (m + 1), perturb := bits h, dummy := none }
def st (m : Nat) (h : Int) : Nat → Probe
  | 0 => st0 m h
  | n + 1 => adv m (st m h n)
def pos (m : Nat) (h : Int) (n : Nat) : Nat := (st m h n).j
theorem st_dummy (m : Nat) (h : Int) : ∀ n, (st m h n).dummy = none
  | 0 => rfl
  | n + 1 => by unfold st adv; split <;> exact st_dummy m h n
def hd (m : Nat) (h : Int) : Nat → Nat × Nat
  | 0 => (bits h % (m + 1), bits h)
  | n + 1 => leap m (hd m h n).1 (hd m h n).2
def head (m : Nat) (h : Int) (k : Nat) : Probe := { j := (hd m h k).1, more := runEnd m (hd m h k).1 - (hd m h k).1, i := (hd m h k).1, perturb := (hd m h k).2, dummy := none }
theorem run_in (m : Nat) (h : Int) (k : Nat) {s : Nat} (e : st m h s = head m h k) : ∀ q, q ≤ (head m h k).more → st m h (s + q) = { head m h k with j := (head m h k).j + q, more := (head m h k).more - q }
  | 0, _ => by rw [Nat.add_zero, e]; rfl
  | q + 1, hq => by
    show adv m (st m h (s + q)) = _
    rw [run_in m h k e q (by omega)]
    unfold adv
    rw [if_pos (show (head m h k).more - q > 0 by omega)]
    simp only [Probe.mk.injEq, true_and, and_true]
    omega
theorem more_le (m i : Nat) : runEnd m i - i ≤ 9 := by unfold runEnd; split <;> omega
theorem at_head (m : Nat) (h : Int) : ∀ k, ∃ s, s ≤ 10 * k ∧ st m h s = head m h k
  | 0 => ⟨0, by omega, rfl⟩
  | k + 1 => by
    obtain ⟨s, hs, e⟩ := at_head m h k
    have hm := more_le m (hd m h k).1
    refine ⟨s + (head m h k).more + 1, by show s + (runEnd m (hd m h k).1 - (hd m h k).1) + 1 ≤ _; omega, ?_⟩
    show adv m (st m h (s + (head m h k).more)) = _
    rw [run_in m h k e _ (Nat.le_refl _)]
    unfold adv
    rw [if_neg (by simp)]
    rfl
theorem bits_lt (h : Int) : bits h < 2 ^ 64 := by
  unfold bits
  have h1 := Int.emod_nonneg h (b := 2 ^ 64) (by decide)
  have h2 := Int.emod_lt_of_pos h (b := 2 ^ 64) (by decide)
  omega
theorem hd_pert (m : Nat) (h : Int) : ∀ k, (hd m h k).2 = bits h / 32 ^ k
  | 0 => by simp [hd]
  | k + 1 => by
    show (hd m h k).2 / 32 = _
    rw [hd_pert m h k, Nat.div_div_eq_div_mul, Nat.pow_succ]
theorem hd_late (m : Nat) (h : Int) : ∀ r, (hd m h (13 + r)).1 = it lcg r (hd m h 13).1 % (m + 1) ∨ r = 0
  | 0 => .inr rfl
  | r + 1 => by
    left
    show (hd m h (13 + r + 1)).1 = _
    have hp : (hd m h (13 + r)).2 / 32 = 0 := by
      rw [hd_pert, Nat.div_div_eq_div_mul]
      refine Nat.div_eq_of_lt (Nat.lt_of_lt_of_le (bits_lt h) ?_)
      rw [← Nat.pow_succ, show (32 : Nat) = 2 ^ 5 by decide, ← Nat.pow_mul]
      exact Nat.pow_le_pow_right (by decide) (by omega)
    show ((hd m h (13 + r)).1 * 5 + 1 + (hd m h (13 + r)).2 / 32) % (m + 1) = _
    rw [hp, Nat.add_zero, it_add lcg r 1]
    show _ = (5 * it lcg r (hd m h 13).1 + 1) % (m + 1)
    rcases hd_late m h r with e | e
    · rw [e, Nat.add_mod, Nat.mul_mod, Nat.mod_mod, ← Nat.mul_mod, ← Nat.add_mod, Nat.mul_comm]
    · subst e; rw [Nat.mul_comm]; rfl
theorem visits {m k : Nat} (hm : m + 1 = 2 ^ k) (h : Int) {e : Nat} (he : e ≤ m) : ∃ n, n < 10 * turns m ∧ pos m h n = e := by
  obtain ⟨r, hr, er⟩ := lcg_all k (hd m h 13).1 e
  have hh : ∃ q, q ≤ 13 + (m + 1) ∧ (hd m h q).1 = e := by
    by_cases h0 : r = 0
    · subst h0
      refine ⟨13, by omega, ?_⟩
      have l : (hd m h 13).1 < m + 1 := Nat.mod_lt _ (by omega)
      rw [← hm] at er
      rw [show it lcg 0 (hd m h 13).1 = (hd m h 13).1 from rfl, Nat.mod_eq_of_lt l, Nat.mod_eq_of_lt (by omega)] at er
      exact er
    · refine ⟨13 + r, by omega, ?_⟩
      rcases hd_late m h r with e2 | e2
      · rw [e2, hm, er, Nat.mod_eq_of_lt (by omega)]
      · exact absurd e2 h0
  obtain ⟨q, hq, eq⟩ := hh
  obtain ⟨s, hs, es⟩ := at_head m h q
  refine ⟨s, by unfold turns; omega, ?_⟩
  unfold pos
  rw [es]
  exact eq
abbrev El := Nat × (Int × Value)
structure Tab (t : SetTable) (es : Array (Int × Value)) (L : List El) : Prop where
  pl : t.place.toList = L.map (·.1)
  es : es.toList = L.map (·.2)
  srt : L.Pairwise fun a b => a.1 < b.1
  le : ∀ e ∈ L, e.1 ≤ t.mask
  du : t.dummies = #[]
  len : L.length ≤ t.mask
  two : ∃ k, 3 ≤ k ∧ t.mask + 1 = 2 ^ k
  path : ∀ e ∈ L, ∃ n, pos t.mask e.2.1 n = e.1 ∧ ∀ i < n, pos t.mask e.2.1 i ∈ L.map (·.1)
section
variable {t : SetTable} {es : Array (Int × Value)} {L : List El}
theorem Tab.fits (T : Tab t es L) : t.fits es.size = true := by
  have h1 : t.place.size = L.length := by rw [← Array.length_toList, T.pl, List.length_map]
  have h2 : es.size = L.length := by rw [← Array.length_toList, T.es, List.length_map]
  simp only [SetTable.fits, SetTable.fill, T.du, Bool.and_eq_true, beq_iff_eq, decide_eq_true_eq]
  exact ⟨by omega, by have := T.len; simp; omega⟩
theorem Tab.size (T : Tab t es L) : es.size = L.length := by rw [← Array.length_toList, T.es, List.length_map]
def cnt (j : Nat) : List Nat → Nat
  | [] => 0
  | x :: l => if x < j then cnt j l + 1 else 0
theorem cnt_le (j : Nat) : ∀ l, cnt j l ≤ l.length
  | [] => by simp [cnt]
  | x :: l => by unfold cnt; split <;> simp; exact cnt_le j l
theorem cnt_lt (j : Nat) : ∀ {l : List Nat} {i : Nat} {x : Nat}, i < cnt j l → l[i]? = some x → x < j
  | [], i, x, h, e => by simp at e
  | y :: l, 0, x, h, e => by
    simp at e; subst e
    unfold cnt at h; split at h
    · assumption
    · omega
  | y :: l, i + 1, x, h, e => by
    unfold cnt at h; split at h
    · exact cnt_lt j (l := l) (i := i) (by omega) (by simpa using e)
    · omega
theorem cnt_ge (j : Nat) : ∀ {l : List Nat} {i : Nat} {x : Nat}, l.Pairwise (· < ·) → cnt j l ≤ i → l[i]? = some x → j ≤ x
  | [], i, x, _, h, e => by simp at e
  | y :: l, 0, x, p, h, e => by
    simp at e; subst e
    unfold cnt at h; split at h <;> omega
  | y :: l, i + 1, x, p, h, e => by
    rw [List.pairwise_cons] at p
    unfold cnt at h
    split at h
    · exact cnt_ge j (l := l) (i := i) p.2 (by omega) (by simpa using e)
    · have := p.1 x (List.mem_of_getElem? (by simpa using e)); omega
theorem below_go {xs : Array Nat} {j : Nat} (p : xs.toList.Pairwise (· < ·)) : ∀ fuel lo hi, hi - lo ≤ fuel → lo ≤ cnt j xs.toList → cnt j xs.toList ≤ hi → hi ≤ xs.size → below.go xs j fuel lo hi = cnt j xs.toList
  | 0, lo, hi, hf, h1, h2, _ => by unfold below.go; omega
  | fuel + 1, lo, hi, hf, h1, h2, h3 => by
    unfold below.go
    by_cases hlt : lo < hi
    · simp only [hlt, if_true]
      have hmid : (lo + hi) / 2 < xs.size := by omega
      have ex : xs.toList[(lo + hi) / 2]? = some xs[(lo + hi) / 2] := by rw [Array.getElem?_toList, Array.getElem?_eq_getElem hmid]
      have eg : xs.getD ((lo + hi) / 2) j = xs[(lo + hi) / 2] := by simp [Array.getD, hmid]
      rw [eg]
      split
      · rename_i hx
        refine below_go p fuel _ _ (by omega) ?_ h2 h3
        apply Classical.byContradiction
        intro hc
        have := cnt_ge j p (by omega) ex
        omega
      · rename_i hx
        refine below_go p fuel _ _ (by omega) h1 ?_ (by omega)
        apply Classical.byContradiction
        intro hc
        have := cnt_lt j (by omega) ex
        omega
    · simp only [hlt, if_false]; omega
theorem below_eq {xs : Array Nat} (p : xs.toList.Pairwise (· < ·)) (j : Nat) : below xs j = cnt j xs.toList := by
  unfold below
  refine below_go p _ _ _ (by omega) (by omega) ?_ (Nat.le_refl _)
  have := cnt_le j xs.toList; rw [Array.length_toList] at this; exact this
theorem Tab.pw (T : Tab t es L) : t.place.toList.Pairwise (· < ·) := by rw [T.pl, List.pairwise_map]; exact T.srt
theorem cnt_at {l : List Nat} (p : l.Pairwise (· < ·)) {i j : Nat} (e : l[i]? = some j) : cnt j l = i := by
  have h1 : ¬ i < cnt j l := fun h => by have := cnt_lt j h e; omega
  have h2 : ¬ cnt j l < i := fun h => by
    have hl : cnt j l < l.length := Nat.lt_trans h (List.getElem?_eq_some_iff.mp e).1
    have e2 := List.getElem?_eq_getElem hl
    have := cnt_ge j p (Nat.le_refl _) e2
    have : l[cnt j l] < j := by
      have := List.pairwise_iff_getElem.1 p _ _ hl (List.getElem?_eq_some_iff.mp e).1 h
      rw [(List.getElem?_eq_some_iff.mp e).2] at this; exact this
    omega
  omega
theorem Tab.slot_live (T : Tab t es L) {i : Nat} {e : El} (h : L[i]? = some e) : t.slot e.1 = .live i := by
  have hp : t.place.toList[i]? = some e.1 := by rw [T.pl, List.getElem?_map, h]; rfl
  unfold SetTable.slot
  rw [below_eq T.pw, cnt_at T.pw hp]
  have : t.place[i]? = some e.1 := by rw [← Array.getElem?_toList]; exact hp
  simp [this]
theorem Tab.slot_empty (T : Tab t es L) {j : Nat} (h : j ∉ L.map (·.1)) : t.slot j = .empty := by
  unfold SetTable.slot
  have h1 : ¬ (t.place[below t.place j]? == some j) = true := fun z => by
    rw [beq_iff_eq, ← Array.getElem?_toList] at z
    have := List.mem_of_getElem? z
    rw [T.pl] at this
    exact h this
  have h2 : has t.dummies j = false := by rw [T.du]; simp [has]
  simp only [h1, h2]
  rfl
theorem Tab.free (T : Tab t es L) (h : Int) : ∃ n, n < 10 * turns t.mask ∧ pos t.mask h n ∉ L.map (·.1) ∧ ∀ i < n, pos t.mask h i ∈ L.map (·.1) := by
  obtain ⟨k, _, hk⟩ := T.two
  have hex : ∃ e, e ≤ t.mask ∧ e ∉ L.map (·.1) := by
    apply Classical.byContradiction
    intro hc
    have all : ∀ e, e ≤ t.mask → e ∈ L.map (·.1) := fun e he => Classical.byContradiction fun z => hc ⟨e, he, z⟩
    have hlen : ∀ (n : Nat) (l : List Nat), (∀ e, e < n → e ∈ l) → n ≤ l.length := fun n => by
      induction n with
      | zero => intro l _; omega
      | succ n ih =>
        intro l hl
        have hm := hl n (by omega)
        have := ih (l.erase n) fun e he => (List.mem_erase_of_ne (by omega)).2 (hl e (by omega))
        rw [List.length_erase_of_mem hm] at this
        have := List.length_pos_of_mem hm
        omega
    have := hlen (t.mask + 1) (L.map (·.1)) fun e he => all e (by omega)
    have h2 := T.len
    simp at this; omega
  obtain ⟨e, he, hne⟩ := hex
  obtain ⟨n, hn, en⟩ := visits hk h he
  have hn2 : pos t.mask h n ∉ L.map (·.1) := by rw [en]; exact hne
  clear en
  induction n using Nat.strongRecOn with
  | ind n ih =>
    by_cases hall : ∀ i < n, pos t.mask h i ∈ L.map (·.1)
    · exact ⟨n, hn, hn2, hall⟩
    · have : ∃ i, i < n ∧ pos t.mask h i ∉ L.map (·.1) := Classical.byContradiction fun z => hall fun i hi => Classical.byContradiction fun y => z ⟨i, hi, y⟩
      obtain ⟨i, hi, y⟩ := this
      exact ih i hi (by omega) y
theorem Tab.probe (T : Tab t es L) {hashAt : Nat → Int} (hh : ∀ i e, L[i]? = some e → hashAt i = e.2.1) {h : Int} {n : Nat} (hn : pos t.mask h n ∉ L.map (·.1)) (hall : ∀ i < n, pos t.mask h i ∈ L.map (·.1)) :
    ∀ fuel i, i ≤ n → n - i < fuel → (∃ q idx e, i ≤ q ∧ q < n ∧ L[idx]? = some e ∧ e.1 = pos t.mask h q ∧ e.2.1 = h ∧ (∀ r, i ≤ r → r < q → ∀ e' ∈ L, e'.1 = pos t.mask h r → e'.2.1 ≠ h) ∧ SetTable.probe.go t hashAt h fuel (st t.mask h i) = some (.candidate e.1 idx (st t.mask h (q + 1)))) ∨
      ((∀ r, i ≤ r → r < n → ∀ e' ∈ L, e'.1 = pos t.mask h r → e'.2.1 ≠ h) ∧ SetTable.probe.go t hashAt h fuel (st t.mask h i) = some (.empty (pos t.mask h n) none))
  | 0, i, _, hf => by omega
  | fuel + 1, i, hi, hf => by
    unfold SetTable.probe.go
    by_cases hin : i = n
    · subst hin
      right
      refine ⟨fun r h1 h2 => by omega, ?_⟩
      rw [show (st t.mask h i).j = pos t.mask h i from rfl, T.slot_empty hn, st_dummy]
    · have hm := hall i (by omega)
      obtain ⟨e, he, ee⟩ := List.mem_map.1 hm
      obtain ⟨idx, hidx⟩ := List.getElem?_of_mem he
      rw [show (st t.mask h i).j = pos t.mask h i from rfl, ← ee, T.slot_live hidx]
      dsimp only
      rw [hh idx e hidx]
      by_cases hq : e.2.1 = h
      · left
        refine ⟨i, idx, e, Nat.le_refl _, by omega, hidx, ee, hq, fun r h1 h2 => by omega, ?_⟩
        rw [if_pos (by simp [hq])]
        rfl
      · rw [if_neg (by simp [hq])]
        have hone : ∀ e' ∈ L, e'.1 = pos t.mask h i → e'.2.1 ≠ h := fun e' he' e1 => by
          have : e' = e := by
            obtain ⟨idx', hidx'⟩ := List.getElem?_of_mem he'
            have a1 := T.slot_live hidx'
            have a2 := T.slot_live hidx
            rw [e1, ← ee, a2] at a1
            cases a1
            rw [hidx] at hidx'; cases hidx'; rfl
          rw [this]; exact hq
        rcases Tab.probe T hh hn hall fuel (i + 1) (by omega) (by omega) with ⟨q, idx', e', h1, h2, h3, h4, h5, h6, h7⟩ | ⟨h1, h2⟩
        · left
          refine ⟨q, idx', e', by omega, h2, h3, h4, h5, fun r r1 r2 => ?_, h7⟩
          by_cases hr : r = i
          · subst hr; exact hone
          · exact h6 r (by omega) r2
        · right
          refine ⟨fun r r1 r2 => ?_, h2⟩
          by_cases hr : r = i
          · subst hr; exact hone
          · exact h1 r (by omega) r2
end
end ST
set_option Elab.async false
set_option linter.all false
set_option maxRecDepth 100000
namespace ST
open PySem PySem.SetTable
theorem runEnd_le {m i : Nat} (h : i ≤ m) : runEnd m i ≤ m ∧ i ≤ runEnd m i := by unfold runEnd; split <;> omega
theorem hd_le (m : Nat) (h : Int) : ∀ k, (hd m h k).1 ≤ m
  | 0 => by have := Nat.mod_lt (bits h) (show 0 < m + 1 by omega); show bits h % (m + 1) ≤ m; omega
  | k + 1 => by have := Nat.mod_lt ((hd m h k).1 * 5 + 1 + (hd m h k).2 / 32) (show 0 < m + 1 by omega); show ((hd m h k).1 * 5 + 1 + (hd m h k).2 / 32) % (m + 1) ≤ m; omega
theorem st_le (m : Nat) (h : Int) : ∀ n, (st m h n).j + (st m h n).more ≤ m
  | 0 => by
    have h1 := hd_le m h 0
    have h2 := runEnd_le h1
    show (hd m h 0).1 + (runEnd m (hd m h 0).1 - (hd m h 0).1) ≤ m
    omega
  | n + 1 => by
    have ih := st_le m h n
    show (adv m (st m h n)).j + (adv m (st m h n)).more ≤ m
    unfold adv
    split
    · show (st m h n).j + 1 + ((st m h n).more - 1) ≤ m; omega
    · have h1 : (leap m (st m h n).i (st m h n).perturb).1 ≤ m := by
        have := Nat.mod_lt ((st m h n).i * 5 + 1 + (st m h n).perturb / 32) (show 0 < m + 1 by omega)
        show ((st m h n).i * 5 + 1 + (st m h n).perturb / 32) % (m + 1) ≤ m; omega
      have h2 := runEnd_le h1
      dsimp only
      omega
theorem pos_le (m : Nat) (h : Int) (n : Nat) : pos m h n ≤ m := by have := st_le m h n; unfold pos; omega
section
variable {t : SetTable} {es : Array (Int × Value)} {L : List El}
def ins (L : List El) (e : El) : List El := L.take (cnt e.1 (L.map (·.1))) ++ e :: L.drop (cnt e.1 (L.map (·.1)))
theorem mem_ins {e a : El} : a ∈ ins L e ↔ a = e ∨ a ∈ L := by
  unfold ins
  rw [List.mem_append, List.mem_cons]
  conv => rhs; rw [← List.take_append_drop (cnt e.1 (L.map (·.1))) L, List.mem_append]
  constructor
  · rintro (h | h | h); exact .inr (.inl h); exact .inl h; exact .inr (.inr h)
  · rintro (h | h | h); exact .inr (.inl h); exact .inl h; exact .inr (.inr h)
theorem ins_len {e : El} : (ins L e).length = L.length + 1 := by
  unfold ins
  have := cnt_le e.1 (L.map (·.1))
  simp at this ⊢
  omega
theorem Tab.put (T : Tab t es L) {h : Int} {x : Value} {n : Nat} (hn : pos t.mask h n ∉ L.map (·.1)) (hall : ∀ i < n, pos t.mask h i ∈ L.map (·.1)) (hlen : L.length + 1 ≤ t.mask) (pn : Bool) :
    Tab { (t.put (pos t.mask h n)).1 with plain := pn } (insertAt es (t.put (pos t.mask h n)).2 (h, x)) (ins L (pos t.mask h n, (h, x))) := by
  have hp : (t.put (pos t.mask h n)).2 = cnt (pos t.mask h n) (L.map (·.1)) := by
    show below t.place _ = _
    rw [below_eq T.pw, T.pl]
  have sub : ∀ j, j ∈ L.map (·.1) → j ∈ (ins L (pos t.mask h n, (h, x))).map (·.1) := fun j hj => by
    obtain ⟨a, ha, rfl⟩ := List.mem_map.1 hj
    exact List.mem_map.2 ⟨a, mem_ins.2 (.inr ha), rfl⟩
  refine ⟨?_, ?_, ?_, fun e he => ?_, ?_, ?_, T.two, fun e he => ?_⟩
  · show (insertAt t.place (below t.place (pos t.mask h n)) (pos t.mask h n)).toList = _
    rw [SetTable.toList_insertAt, below_eq T.pw, T.pl]
    unfold ins
    simp [List.map_take, List.map_drop]
  · rw [hp, SetTable.toList_insertAt, T.es]
    unfold ins
    simp [List.map_take, List.map_drop]
  · unfold ins
    have srt := T.srt
    rw [← List.take_append_drop (cnt (pos t.mask h n) (L.map (·.1))) L, List.pairwise_append] at srt
    rw [List.pairwise_append, List.pairwise_cons]
    have lt : ∀ a ∈ L.take (cnt (pos t.mask h n) (L.map (·.1))), a.1 < pos t.mask h n := fun a ha => by
      obtain ⟨i, hi⟩ := List.getElem?_of_mem ha
      have hi2 : i < cnt (pos t.mask h n) (L.map (·.1)) := by
        have := (List.getElem?_eq_some_iff.mp hi).1; simp at this; omega
      rw [List.getElem?_take_of_lt hi2] at hi
      exact cnt_lt _ hi2 (by rw [List.getElem?_map, hi]; rfl)
    have gt : ∀ a ∈ L.drop (cnt (pos t.mask h n) (L.map (·.1))), pos t.mask h n < a.1 := fun a ha => by
      obtain ⟨i, hi⟩ := List.getElem?_of_mem ha
      rw [List.getElem?_drop] at hi
      have h1 := cnt_ge (pos t.mask h n) (l := L.map (·.1)) (i := cnt (pos t.mask h n) (L.map (·.1)) + i) (x := a.1) (by rw [← T.pl]; exact T.pw) (by omega) (by rw [List.getElem?_map, hi]; rfl)
      have h2 : a.1 ≠ pos t.mask h n := fun z => hn (by rw [← z]; exact List.mem_map.2 ⟨a, List.mem_of_getElem? hi, rfl⟩)
      omega
    refine ⟨srt.1, ⟨gt, srt.2.1⟩, fun a ha b hb => ?_⟩
    rcases List.mem_cons.1 hb with rfl | hb
    · exact lt a ha
    · exact srt.2.2 a ha b hb
  · rcases mem_ins.1 he with rfl | he
    · exact pos_le _ _ _
    · exact T.le e he
  · show (if has t.dummies _ = true then _ else t.dummies) = #[]
    rw [T.du]; simp [has]
  · rw [ins_len]; exact hlen
  · rcases mem_ins.1 he with rfl | he
    · exact ⟨n, rfl, fun i hi => sub _ (hall i hi)⟩
    · obtain ⟨q, h1, h2⟩ := T.path e he
      exact ⟨q, h1, fun i hi => sub _ (h2 i hi)⟩
end
def sIdx (m : Nat) (h : Int) : Nat → Nat
  | 0 => 0
  | k + 1 => sIdx m h k + (head m h k).more + 1
theorem st_s (m : Nat) (h : Int) : ∀ k, st m h (sIdx m h k) = head m h k
  | 0 => rfl
  | k + 1 => by
    show adv m (st m h (sIdx m h k + (head m h k).more)) = _
    rw [run_in m h k (st_s m h k) _ (Nat.le_refl _)]
    unfold adv
    rw [if_neg (by simp)]
    rfl
theorem pos_run (m : Nat) (h : Int) (k q : Nat) (hq : q ≤ (head m h k).more) : pos m h (sIdx m h k + q) = (hd m h k).1 + q := by
  unfold pos
  rw [run_in m h k (st_s m h k) q hq]
  rfl
theorem free_ok {m : Nat} {owner : Array (Option Nat)} (hs : owner.size = m + 1) (h : Int) : ∀ fuel k, (∀ i < sIdx m h k, (owner.getD (pos m h i) (some 0)).isNone = false) → (∃ q, k ≤ q ∧ q < k + fuel ∧ (owner.getD (hd m h q).1 (some 0)).isNone = true) →
    ∃ n, layClean.free m owner fuel (hd m h k).1 (hd m h k).2 = some (pos m h n) ∧ (owner.getD (pos m h n) (some 0)).isNone = true ∧ ∀ i < n, (owner.getD (pos m h i) (some 0)).isNone = false
  | 0, k, _, ⟨q, h1, h2, _⟩ => by omega
  | fuel + 1, k, hb, ⟨q, h1, h2, h3⟩ => by
    unfold layClean.free
    have hmore : (head m h k).more = runEnd m (hd m h k).1 - (hd m h k).1 := rfl
    have hre := runEnd_le (hd_le m h k)
    cases e : (List.range (runEnd m (hd m h k).1 + 1 - (hd m h k).1)).find? fun x => (owner.getD ((hd m h k).1 + x) (some 0)).isNone with
    | some x =>
      dsimp only
      obtain ⟨p1, i0, hi0, hei, hbef⟩ := List.find?_eq_some_iff_getElem.1 e
      simp at hi0 hei
      subst hei
      have hx : i0 ≤ (head m h k).more := by rw [hmore]; omega
      refine ⟨sIdx m h k + i0, by rw [pos_run m h k i0 hx], by rw [pos_run m h k i0 hx]; exact p1, fun i hi => ?_⟩
      by_cases h4 : i < sIdx m h k
      · exact hb i h4
      · obtain ⟨r, rfl⟩ := Nat.exists_eq_add_of_le (Nat.le_of_not_lt h4)
        rw [pos_run m h k r (by omega)]
        have := hbef r (by omega)
        simpa using this
    | none =>
      dsimp only
      have hnone := List.find?_eq_none.1 e
      have hb' : ∀ i < sIdx m h (k + 1), (owner.getD (pos m h i) (some 0)).isNone = false := fun i hi => by
        by_cases h4 : i < sIdx m h k
        · exact hb i h4
        · obtain ⟨r, rfl⟩ := Nat.exists_eq_add_of_le (Nat.le_of_not_lt h4)
          have hr : r ≤ (head m h k).more := by rw [show sIdx m h (k + 1) = sIdx m h k + (head m h k).more + 1 from rfl] at hi; omega
          rw [pos_run m h k r hr]
          exact Bool.eq_false_iff.2 (hnone r (by simp; rw [hmore] at hr; omega))
      have hqk : q ≠ k := fun z => by
        subst z
        have t : ¬ (owner.getD ((hd m h q).1 + 0) (some 0)).isNone = true := hnone 0 (by simp; omega)
        exact t (by rw [Nat.add_zero]; exact h3)
      exact free_ok hs h fuel (k + 1) hb' ⟨q, by omega, by omega, h3⟩
theorem visitsH {m k : Nat} (hm : m + 1 = 2 ^ k) (h : Int) {e : Nat} (he : e ≤ m) : ∃ q, q < turns m ∧ (hd m h q).1 = e := by
  obtain ⟨r, hr, er⟩ := lcg_all k (hd m h 13).1 e
  by_cases h0 : r = 0
  · subst h0
    refine ⟨13, by unfold turns; omega, ?_⟩
    have l := hd_le m h 13
    rw [← hm] at er
    rw [show it lcg 0 (hd m h 13).1 = (hd m h 13).1 from rfl, Nat.mod_eq_of_lt (by omega), Nat.mod_eq_of_lt (by omega)] at er
    exact er
  · refine ⟨13 + r, by unfold turns; omega, ?_⟩
    rcases hd_late m h r with e2 | e2
    · rw [e2, hm, er, Nat.mod_eq_of_lt (by omega)]
    · exact absurd e2 h0
structure Lay (m : Nat) (hs : List Int) (owner : Array (Option Nat)) (P : List Nat) : Prop where
  size : owner.size = m + 1
  nd : P.Nodup
  le : ∀ j ∈ P, j ≤ m
  own : ∀ j, j ≤ m → owner.getD j none = (P.idxOf? j)
  path : ∀ (i j : Nat), P[i]? = some j → ∃ (h : Int) (n : Nat), hs[i]? = some h ∧ pos m h n = j ∧ ∀ q < n, pos m h q ∈ P
theorem getD_isNone {owner : Array (Option Nat)} {j : Nat} (h : j < owner.size) : (owner.getD j (some 0)).isNone = (owner.getD j none).isNone := by
  simp [Array.getD, h]
theorem idxOf_none {P : List Nat} {j : Nat} : (P.idxOf? j).isNone = true ↔ j ∉ P := by
  rw [Option.isNone_iff_eq_none]
  unfold List.idxOf?
  rw [List.findIdx?_eq_none_iff]
  constructor
  · intro h z; have := h j z; simp at this
  · intro h x hx; simp; rintro rfl; exact h hx
theorem idxOf_app {P : List Nat} {j k : Nat} (h : k ∉ P) : (P ++ [k]).idxOf? j = if j = k then some P.length else P.idxOf? j := by
  unfold List.idxOf?
  rw [List.findIdx?_append]
  by_cases e : j = k
  · subst e
    have : P.findIdx? (· == j) = none := by
      rw [List.findIdx?_eq_none_iff]; intro x hx; simp; rintro rfl; exact h hx
    simp [this, List.findIdx?_cons]
  · have hk : ¬ k = j := fun z => e z.symm
    simp only [if_neg e, List.findIdx?_cons, List.findIdx?_nil]
    have : (k == j) = false := by simp [hk]
    rw [this]
    cases P.findIdx? (· == j) <;> simp
theorem Lay.step {m k : Nat} (hm : m + 1 = 2 ^ k) {hs : List Int} {owner : Array (Option Nat)} {P : List Nat} (Y : Lay m hs owner P) {h : Int} (hh : hs[P.length]? = some h) (hlen : P.length < m) :
    ∃ j, layClean.free m owner (turns m) (bits h % (m + 1)) (bits h) = some j ∧ Lay m hs (owner.setIfInBounds j (some P.length)) (P ++ [j]) := by
  have occ : ∀ j, j ≤ m → ((owner.getD j (some 0)).isNone = true ↔ j ∉ P) := fun j hj => by
    rw [getD_isNone (by rw [Y.size]; omega), Y.own j hj, idxOf_none]
  have hex : ∃ e, e ≤ m ∧ e ∉ P := by
    apply Classical.byContradiction
    intro hc
    have all : ∀ e, e < m + 1 → e ∈ P := fun e he => Classical.byContradiction fun z => hc ⟨e, by omega, z⟩
    have hl : ∀ (n : Nat) (l : List Nat), (∀ e, e < n → e ∈ l) → n ≤ l.length := fun n => by
      induction n with
      | zero => intro l _; omega
      | succ n ih =>
        intro l hl
        have hm := hl n (by omega)
        have := ih (l.erase n) fun e he => (List.mem_erase_of_ne (by omega)).2 (hl e (by omega))
        rw [List.length_erase_of_mem hm] at this
        have := List.length_pos_of_mem hm
        omega
    have := hl (m + 1) P all
    omega
  obtain ⟨e, he, hne⟩ := hex
  obtain ⟨q, hq, eq⟩ := visitsH hm h he
  obtain ⟨n, h1, h2, h3⟩ := free_ok Y.size h (turns m) 0 (by intro i hi; exact absurd hi (by show ¬ i < 0; omega)) ⟨q, by omega, by omega, by rw [eq]; exact (occ e he).2 hne⟩
  have hj := pos_le m h n
  have hnP : pos m h n ∉ P := (occ _ hj).1 h2
  refine ⟨pos m h n, h1, ⟨by simpa using Y.size, ?_, fun j hj' => ?_, fun j hj' => ?_, fun i j hij => ?_⟩⟩
  · rw [List.nodup_append]
    exact ⟨Y.nd, by simp, fun a ha b hb => by simp at hb; subst hb; rintro rfl; exact hnP ha⟩
  · rcases List.mem_append.1 hj' with z | z
    · exact Y.le j z
    · simp at z; subst z; exact hj
  · rw [idxOf_app hnP]
    by_cases e' : j = pos m h n
    · subst e'
      rw [if_pos rfl]
      simp [Array.getD, Y.size, show pos m h n < m + 1 by omega]
    · rw [if_neg e', ← Y.own j hj']
      simp [Array.getD, Y.size]
      have : j < m + 1 := by omega
      simp [this, Array.getElem_setIfInBounds, Y.size]
      intro z; exact absurd z.symm e'
  · by_cases hi : i < P.length
    · rw [List.getElem?_append_left hi] at hij
      obtain ⟨h', n', e1, e2, e3⟩ := Y.path i j hij
      exact ⟨h', n', e1, e2, fun q hq => List.mem_append_left _ (e3 q hq)⟩
    · have : i = P.length := by
        have := (List.getElem?_eq_some_iff.mp hij).1
        simp at this; omega
      subst this
      simp at hij
      subst hij
      refine ⟨h, n, hh, rfl, fun q hq => List.mem_append_left _ ?_⟩
      apply Classical.byContradiction
      intro z
      have h4 := (occ _ (pos_le m h q)).2 z
      rw [h3 q hq] at h4
      cases h4
theorem lay_fold {m k : Nat} (hm : m + 1 = 2 ^ k) {hs : List Int} (hlen : hs.length ≤ m) : ∀ (l : List Int) (owner : Array (Option Nat)) (P : List Nat), hs.drop P.length = l → Lay m hs owner P →
    ∃ owner' P', l.foldl (fun acc h => do
      let (owner, k) ← acc
      let j ← layClean.free m owner (turns m) (bits h % (m + 1)) (bits h)
      pure (owner.setIfInBounds j (some k), k + 1)) (some (owner, P.length)) = some (owner', hs.length) ∧ Lay m hs owner' P' ∧ P'.length = hs.length
  | [], owner, P, hd, Y => by
    have : hs.length ≤ P.length := by
      have := congrArg List.length hd; simp at this; omega
    have h2 : P.length ≤ hs.length := by
      apply Classical.byContradiction
      intro z
      have hlt : hs.length < P.length := by omega
      obtain ⟨h, n, e, _⟩ := Y.path hs.length P[hs.length] (List.getElem?_eq_getElem hlt)
      simp at e
    exact ⟨owner, P, by rw [show hs.length = P.length by omega]; rfl, Y, by omega⟩
  | h :: l, owner, P, hd, Y => by
    have hlt : P.length < hs.length := by
      have := congrArg List.length hd; simp at this; omega
    have hh : hs[P.length]? = some h := by
      have := congrArg (·[0]?) hd
      simpa using this
    obtain ⟨j, e, Y'⟩ := Y.step hm hh (by omega)
    rw [List.foldl_cons]
    simp only [Option.bind_eq_bind, Option.bind_some, e, Option.pure_def]
    have := lay_fold hm hlen l _ (P ++ [j]) (by simp; rw [← List.drop_drop, hd]; rfl) Y'
    simpa using this
theorem layClean_ok {m k : Nat} (hm : m + 1 = 2 ^ k) {hashes : Array Int} (hlen : hashes.size ≤ m) : ∃ owner P, layClean m hashes = some owner ∧ Lay m hashes.toList owner P ∧ P.length = hashes.size := by
  have Y0 : Lay m hashes.toList (Array.replicate (m + 1) none) [] := ⟨by simp, by simp, by simp, fun j hj => by simp [Array.getD, show j < m + 1 by omega, List.idxOf?], by simp⟩
  obtain ⟨owner, P, e, Y, hl⟩ := lay_fold hm (hs := hashes.toList) (by simpa using hlen) hashes.toList _ [] (by simp) Y0
  refine ⟨owner, P, ?_, Y, by simpa using hl⟩
  unfold layClean
  rw [← Array.foldl_toList]
  have e' : hashes.toList.foldl _ (some (Array.replicate (m + 1) none, 0)) = _ := e
  rw [e']; rfl
theorem relaid_ok {t : SetTable} {es : Array (Int × Value)} {wanted k : Nat} (hk : sizeAbove wanted = 2 ^ k) (h3 : 3 ≤ k) (hlen : es.size < sizeAbove wanted - 1) :
    ∃ t' order L, t.relaid (es.map (·.1)) wanted = some (t', order) ∧ (order.filterMap (es[·]?)).size = es.size ∧ Tab t' (order.filterMap (es[·]?)) L ∧ List.Perm (L.map (·.2)) es.toList ∧ t'.mask = sizeAbove wanted - 1 := by
  have hpos : 0 < 2 ^ k := Nat.pow_pos (by decide)
  have hm : sizeAbove wanted - 1 + 1 = 2 ^ k := by omega
  generalize hmm : sizeAbove wanted - 1 = m at *
  obtain ⟨owner, P, e, Y, hl⟩ := layClean_ok hm (hashes := es.map (·.1)) (by simp; omega)
  have hPl : P.length = es.size := by simpa using hl
  let live := (List.range (m + 1)).filterMap fun j => (owner.getD j none).map (j, ·)
  have live_mem : ∀ j i, (j, i) ∈ live ↔ P[i]? = some j := fun j i => by
    show (j, i) ∈ (List.range (m + 1)).filterMap _ ↔ _
    rw [List.mem_filterMap]
    constructor
    · rintro ⟨a, ha, e⟩
      simp at ha
      rw [Y.own a (by omega)] at e
      cases q : P.idxOf? a with
      | none => rw [q] at e; cases e
      | some i' =>
        rw [q] at e; cases e
        unfold List.idxOf? at q
        obtain ⟨h1, h2, _⟩ := List.findIdx?_eq_some_iff_getElem.1 q
        simp at h2
        rw [List.getElem?_eq_getElem h1, h2]
    · intro h
      have hj := Y.le j (List.mem_of_getElem? h)
      refine ⟨j, by simp; omega, ?_⟩
      rw [Y.own j hj]
      have hi := (List.getElem?_eq_some_iff.mp h)
      have : P.idxOf? j = some i := by
        unfold List.idxOf?
        rw [List.findIdx?_eq_some_iff_getElem]
        refine ⟨hi.1, by simp [hi.2], fun a ha => ?_⟩
        simp
        intro z
        have := List.pairwise_iff_getElem.1 Y.nd a i (Nat.lt_trans ha hi.1) hi.1 ha
        exact this (by rw [z, hi.2])
      rw [this]; rfl
  have live_srt : live.Pairwise fun a b => a.1 < b.1 := by
    show ((List.range (m + 1)).filterMap _).Pairwise _
    refine List.Pairwise.filterMap _ (R := (· < ·)) (fun a b hab c hc d hd => ?_) List.pairwise_lt_range
    cases q1 : owner.getD a none with
    | none => rw [q1] at hc; cases hc
    | some i => cases q2 : owner.getD b none with
      | none => rw [q2] at hd; cases hd
      | some i2 => rw [q1] at hc; rw [q2] at hd; cases hc; cases hd; exact hab
  let L : List El := live.filterMap fun p => (es[p.2]?).map fun x => (p.1, x)
  have hin : ∀ p ∈ live, ∃ x, es[p.2]? = some x := fun p hp => by
    have := (live_mem p.1 p.2).1 hp
    have := (List.getElem?_eq_some_iff.mp this).1
    exact ⟨_, Array.getElem?_eq_getElem (by omega)⟩
  have L1 : L.map (·.1) = live.map (·.1) := by
    show (live.filterMap _).map _ = _
    clear live_mem live_srt
    revert hin
    generalize live = l
    intro hin
    induction l with
    | nil => rfl
    | cons p l ih =>
      obtain ⟨x, hx⟩ := hin p (by simp)
      rw [List.filterMap_cons, hx]
      simp [ih fun q hq => hin q (by simp [hq])]
  have L2 : L.map (·.2) = live.filterMap fun p => es[p.2]? := by
    show (live.filterMap _).map _ = _
    rw [List.map_filterMap]
    congr 1
    funext p
    cases es[p.2]? <;> rfl
  have perm : List.Perm (live.map (·.2)) (List.range es.size) := by
    rw [List.perm_ext_iff_of_nodup]
    · intro i
      rw [List.mem_map, List.mem_range]
      constructor
      · rintro ⟨p, hp, rfl⟩
        have := (live_mem p.1 p.2).1 hp
        have := (List.getElem?_eq_some_iff.mp this).1
        omega
      · intro hi
        exact ⟨(P[i], i), (live_mem _ _).2 (List.getElem?_eq_getElem (by omega)), rfl⟩
    · rw [List.Nodup, List.pairwise_map]
      refine live_srt.imp_of_mem fun {a b} ha hb hab z => ?_
      have h1 := (live_mem a.1 a.2).1 ha
      have h2 := (live_mem b.1 b.2).1 hb
      rw [z, h2] at h1
      have := Option.some.inj h1
      omega
    · exact List.nodup_range
  have perm2 : List.Perm (L.map (·.2)) es.toList := by
    rw [L2, show (live.filterMap fun p => es[p.2]?) = (live.map (·.2)).filterMap (es[·]?) by rw [List.filterMap_map]; rfl]
    refine (List.Perm.filterMap _ perm).trans ?_
    rw [PySem.filterMap_getElem?_range]
  have hLl : L.length = es.size := by have := perm2.length_eq; simpa using this
  refine ⟨{ mask := m, place := (live.map (·.1)).toArray, dummies := #[], finger := t.finger, led := t.led, moves := t.movedTo m, plain := t.plain }, (live.map (·.2)).toArray, L, ?_, ?_, ⟨?_, ?_, ?_, ?_, rfl, ?_, ⟨k, h3, hm⟩, ?_⟩, perm2, rfl⟩
  · unfold relaid laid
    rw [hmm]
    simp only [e, Option.bind_eq_bind, Option.bind_some, Option.pure_def]
    rfl
  · rw [← Array.length_toList]
    have : ((live.map (·.2)).toArray.filterMap (es[·]?)).toList = L.map (·.2) := by rw [L2]; simp [List.filterMap_map]; rfl
    rw [this]; simpa using hLl
  · rw [L1]
  · rw [L2]; simp [List.filterMap_map]; rfl
  · have : (L.map (·.1)).Pairwise (· < ·) := by rw [L1, List.pairwise_map]; exact live_srt
    rwa [List.pairwise_map] at this
  · intro x hx
    have : x.1 ∈ live.map (·.1) := by rw [← L1]; exact List.mem_map.2 ⟨x, hx, rfl⟩
    obtain ⟨p, hp, hpe⟩ := List.mem_map.1 this
    have := Y.le p.1 (List.mem_of_getElem? ((live_mem p.1 p.2).1 hp))
    show x.1 ≤ m
    omega
  · show L.length ≤ m; omega
  · intro x hx
    obtain ⟨p, hp, hpe⟩ := List.mem_filterMap.1 hx
    obtain ⟨y, hy⟩ := hin p hp
    rw [hy] at hpe; cases hpe
    obtain ⟨h, n, e1, e2, e3⟩ := Y.path p.2 p.1 ((live_mem p.1 p.2).1 hp)
    have eh : h = y.1 := by
      simp at e1
      obtain ⟨z, hz⟩ := e1
      rw [hy] at hz
      simp_all
    subst eh
    refine ⟨n, e2, fun q hq => ?_⟩
    rw [L1]
    obtain ⟨i, hi⟩ := List.getElem?_of_mem (e3 q hq)
    exact List.mem_map.2 ⟨(pos m y.1 q, i), (live_mem _ _).2 hi, rfl⟩
end ST
set_option Elab.async false
set_option linter.all false
set_option maxRecDepth 100000
namespace ST
open PySem PySem.SetTable
section
variable {prog : Program} {w : World} {K : Type} [DecidableEq K] {knd : KeyKind prog w K} {A : Around} {E : Value → Shared → Prop} {s : Shared}
theorem hashBy_val (n : Nat) {v : Value} (h : carriedByValue v = true) {Q : Bool → Shared → Prop} (q : ∀ b, Q b s) : wpAny (model prog w) A (hashByValue n v) Q E s := by
  cases v <;> first | (simp [carriedByValue] at h; done) | (unfold hashByValue; exact wpAny_pure (q _))
theorem hashBy_tup {ks : List K} {a : Addr} {n : Nat} {Q : Bool → Shared → Prop} (hk : IsTupleKey knd s.heap ks a) (q : ∀ b, Q b s) : wpAny (model prog w) A (hashByValue (n + 1) (.ref a)) Q E s := by
  have hT := hk.typeIs
  obtain ⟨o, items, m, ho, _, hd, hi⟩ := hk
  unfold hashByValue
  refine wpAny_bind (wpAny_specialOf hT F.slot_tuple_hash.lookup ?_)
  dsimp only
  refine wpAny_bind (wpAny_seqItems ho hd ?_)
  refine wpAny_bind ?_
  show wpAny _ _ (forIn items _ _) _ _ s
  rw [← Array.forIn_toList]
  refine wpAny_forIn_list _ (fun rest r s' => s' = s ∧ ∀ v ∈ rest, carriedByValue v = true) _ ?_ ?_ _ _ ⟨rfl, hi.byValue⟩
  · rintro v rest r s' ⟨rfl, hall⟩
    refine wpAny_bind (hashBy_val _ (hall v List.mem_cons_self) fun b => ?_)
    cases b
    · exact wpAny_pure (wpAny_pure (q _))
    · exact wpAny_pure ⟨rfl, fun u hu => hall u (List.mem_cons_of_mem _ hu)⟩
  · rintro ⟨r1, r2⟩ s' ⟨rfl, _⟩
    cases r1 <;> exact wpAny_pure (q _)
theorem cls_val (n : Nat) {v : Value} (h : carriedByValue v = true) : ofAClassStatement n v = pure false := by
  cases v <;> first | (simp [carriedByValue] at h; done) | (cases n <;> rfl) | (cases n <;> unfold ofAClassStatement <;> rfl)
theorem cls_tup {ks : List K} {a : Addr} {n : Nat} {Q : Bool → Shared → Prop} (hk : IsTupleKey knd s.heap ks a) (q : Q false s) : wpAny (model prog w) A (ofAClassStatement (n + 1) (.ref a)) Q E s := by
  have hT := hk.typeIs
  obtain ⟨o, items, m, ho, _, hd, hi⟩ := hk
  unfold ofAClassStatement
  refine wpAny_bind (wpAny_typeOf hT ?_)
  dsimp only
  simp only [beq_self_eq_true, if_true]
  refine wpAny_bind (wpAny_pure ?_)
  simp only [Bool.not_true, Bool.false_eq_true, if_false]
  refine wpAny_bind (wpAny_seqItems ho hd ?_)
  dsimp only
  refine wpAny_bind ?_
  show wpAny _ _ (forIn items _ _) _ _ s
  rw [← Array.forIn_toList]
  refine wpAny_forIn_list _ (fun rest r s' => r.1 = none ∧ s' = s ∧ ∀ v ∈ rest, carriedByValue v = true) _ ?_ ?_ _ _ ⟨rfl, rfl, hi.byValue⟩
  · rintro v rest r s' ⟨hr, rfl, hall⟩
    rw [cls_val _ (hall v List.mem_cons_self)]
    refine wpAny_bind (wpAny_pure ?_)
    simp only [Bool.false_eq_true, if_false]
    exact wpAny_pure ⟨rfl, rfl, fun u hu => hall u (List.mem_cons_of_mem _ hu)⟩
  · rintro ⟨r1, r2⟩ s' ⟨hr, rfl, _⟩
    simp only at hr
    subst hr
    exact wpAny_pure q
theorem unseen_tup {ks : List K} {a : Addr} {ys : List Value} {Q : Bool → Shared → Prop} (hk : IsTupleKey knd s.heap ks a) (hy : ∀ y ∈ ys, ∃ b k', y = .ref b ∧ IsTupleKey knd s.heap k' b) (q : Q false s) : wpAny (model prog w) A (searchCouldBeSeen (.ref a) ys) Q E s := by
  unfold searchCouldBeSeen
  refine wpAny_bind ?_
  refine wpAny_forIn_list _ (fun rest r s' => r.1 = none ∧ s' = s ∧ ∀ y ∈ rest, ∃ b k', y = .ref b ∧ IsTupleKey knd s.heap k' b) _ ?_ ?_ _ _ ⟨rfl, rfl, hy⟩
  · rintro v rest r s' ⟨hr, rfl, hall⟩
    obtain ⟨b, k', rfl, hb⟩ := hall v List.mem_cons_self
    have rest' : ∀ y ∈ rest, ∃ b k', y = .ref b ∧ IsTupleKey knd s'.heap k' b := fun y hy => hall y (List.mem_cons_of_mem _ hy)
    dsimp only
    by_cases hv : (a == b || (carriedByValue (.ref a) && carriedByValue (.ref b))) = true
    · rw [if_pos hv]; exact wpAny_pure ⟨rfl, rfl, rest'⟩
    · rw [if_neg hv]
      refine wpAny_bind (wpAny_eqIsQuiet_tuple hk ?_)
      simp only [Bool.not_true, Bool.false_eq_true, if_false]
      refine wpAny_bind (wpAny_eqIsQuiet_tuple hb ?_)
      simp only [Bool.not_true, Bool.false_eq_true, if_false]
      refine wpAny_bind (cls_tup hk ?_)
      simp only [Bool.false_eq_true, if_false]
      refine wpAny_bind (cls_tup hb ?_)
      simp only [Bool.false_eq_true, if_false]
      exact wpAny_pure ⟨rfl, rfl, rest'⟩
  · rintro ⟨r1, r2⟩ s' ⟨hr, rfl, _⟩
    simp only at hr
    subst hr
    exact wpAny_pure q
def masks : List Nat := [7, 31, 127, 511, 2047, 8191]
structure Held (knd : KeyKind prog w K) (h : Heap) (ds : List (List K)) (t : SetTable) (es : Array (Int × Value)) (L : List El) : Prop where
  tab : Tab t es L
  mask : t.mask ∈ masks
  room : L.length * 5 < t.mask * 3
  all : ∀ e ∈ L, ∃ k ad, k ∈ ds ∧ e.2 = (tupleKeyHash knd k, .ref ad) ∧ IsTupleKey knd h k ad
  has : ∀ k ∈ ds, ∃ e ∈ L, ∃ ad, e.2 = (tupleKeyHash knd k, .ref ad) ∧ IsTupleKey knd h k ad
  len : L.length = ds.length
def SetT (knd : KeyKind prog w K) (h : Heap) (a : Addr) (ds : List (List K)) : Prop := ∃ o es ep t L, h.get? a = some o ∧ o.ExactSet ∧ o.data = .set es ep t ∧ Held knd h ds t es L
theorem turns_le {m : Nat} (h : m ∈ masks) : 10 * turns m < 100000 ∧ m % 2 = 1 := by
  simp [masks] at h
  rcases h with rfl | rfl | rfl | rfl | rfl | rfl <;> decide
theorem same_self {x : Addr} {Q : Bool → Shared → Prop} (q : Q true s) : wpAny (model prog w) A (isSame (.ref x) (.ref x)) Q E s := by
  unfold isSame
  dsimp only
  rw [if_pos (by simp)]
  exact wpAny_pure q
theorem led_case {α : Type} {b : Bool} {S : Sem Bool} {U Y : Sem α} {Q : α → Shared → Prop} (hS : b = false → wpAny (model prog w) A S (fun r s' => r = false ∧ s' = s) E s) (hY : wpAny (model prog w) A Y Q E s) :
    wpAny (model prog w) A (if (!b) = true then (do let r ← S; if r = true then U else Y) else Y) Q E s := by
  cases b with
  | true => simp only [Bool.not_true, Bool.false_eq_true, if_false]; exact hY
  | false =>
    simp only [Bool.not_false, if_true]
    refine wpAny_bind (wpAny_mono (hS rfl) (fun r s' h => ?_) fun _ _ x => x)
    obtain ⟨rfl, rfl⟩ := h
    simp only [Bool.false_eq_true, if_false]
    exact hY
theorem search_ok {a ad : Addr} {ds : List (List K)} {k : List K} {o : Obj} {es : Array (Int × Value)} {ep : Nat} {t : SetTable} {L : List El} (ho : s.heap.get? a = some o) (hd : o.data = .set es ep t) (H : Held knd s.heap ds t es L) (hu : A.units < cLine) (hk : IsTupleKey knd s.heap k ad)
    {n : Nat} (hn : pos t.mask (tupleKeyHash knd k) n ∉ L.map (·.1)) (hall : ∀ i < n, pos t.mask (tupleKeyHash knd k) i ∈ L.map (·.1)) (hfuel : n < 10 * turns t.mask) {Q : SetFound → Shared → Prop} (q1 : k ∈ ds → Q (.there none) s) (q2 : k ∉ ds → Q (.free (pos t.mask (tupleKeyHash knd k) n) false) s) :
    ∀ fuel i, i ≤ n → n - i < fuel → (∀ r < i, ∀ e ∈ L, e.1 = pos t.mask (tupleKeyHash knd k) r → ∀ k' ad', e.2 = (tupleKeyHash knd k', .ref ad') → IsTupleKey knd s.heap k' ad' → k' ≠ k) →
      ∀ stand : Option Probe, stand.getD (t.probeStart (tupleKeyHash knd k)) = st t.mask (tupleKeyHash knd k) i → wpAny (model prog w) A (setSearchFrom a (.ref ad) (tupleKeyHash knd k) true fuel stand) Q E s
  | 0, i, _, hf, _, _, _ => by omega
  | fuel + 1, i, hi, hf, hbef, stand, hst => by
    have T := H.tab
    have hm := turns_le H.mask
    have es_at : ∀ (x : Nat) (e : El), L[x]? = some e → es[x]? = some e.2 := fun x e he => by
      rw [← Array.getElem?_toList, T.es, List.getElem?_map, he]; rfl
    unfold setSearchFrom
    refine wpAny_bind (wpAny_setState_of ho hd T.fits ?_)
    dsimp only
    have gw : t.gaveWay = false := by unfold SetTable.gaveWay; simp; omega
    rw [gw, hst]
    simp only [Bool.false_eq_true, if_false]
    unfold SetTable.probe
    rcases T.probe (hashAt := fun x => (es[x]?.map (·.1)).getD 0) (fun x e he => by rw [es_at x e he]; rfl) hn hall (10 * turns t.mask) i hi (by omega) with ⟨q, idx, e, h1, h2, h3, h4, h5, h6, h7⟩ | ⟨h1, h2⟩
    · split
      · rename_i met heq
        have e0 := Option.some.inj (heq.symm.trans h7)
        subst e0
        dsimp only
        have he : e ∈ L := List.mem_of_getElem? h3
        obtain ⟨k', ad', hk', ee, hkk⟩ := H.all e he
        have ecand : es[idx]? = some (tupleKeyHash knd k', .ref ad') := by rw [es_at idx e h3, ee]
        refine led_case (fun _ => ?_) ?_
        · refine unseen_tup hk (fun y hy => ?_) ⟨rfl, rfl⟩
          obtain ⟨z, hz, rfl⟩ := List.mem_map.1 hy
          have hz2 : z ∈ es.toList := by
            have := Array.mem_filter.1 (Array.mem_toList_iff.1 hz)
            exact Array.mem_toList_iff.2 this.1
          rw [T.es] at hz2
          obtain ⟨e', he', rfl⟩ := List.mem_map.1 hz2
          obtain ⟨k2, ad2, _, e2, hk2⟩ := H.all e' he'
          exact ⟨ad2, k2, by rw [e2], hk2⟩
        · rw [ecand]
          dsimp only
          refine wpAny_bind (wpAny_holding (wpAny_eqBool_tuple hu hkk hk ?_))
          refine wpAny_bind (wpAny_setState_of ho hd T.fits ?_)
          dsimp only
          by_cases hq : k' = k
          · subst hq
            simp only [decide_true, Bool.and_self, if_true]
            exact wpAny_pure (q1 hk')
          · simp only [hq, decide_false, Bool.and_false, Bool.false_eq_true, if_false]
            have sm : t.sameMemory t.moves t.mask = some true := by unfold SetTable.sameMemory; simp
            rw [sm]
            dsimp only
            rw [if_pos rfl, T.slot_live h3]
            dsimp only
            rw [ecand]
            dsimp only
            refine wpAny_bind (same_self (wpAny_bind (wpAny_pure ?_)))
            simp only [if_true]
            refine search_ok ho hd H hu hk hn hall hfuel q1 q2 fuel (q + 1) (by omega) (by omega) (fun r hr e' he' e1 k2 ad2 e2 hk2 => ?_) _ rfl
            by_cases hri : r < i
            · exact hbef r hri e' he' e1 k2 ad2 e2 hk2
            · by_cases hrq : r = q
              · subst hrq
                have : e' = e := by
                  obtain ⟨x', hx'⟩ := List.getElem?_of_mem he'
                  have a1 := T.slot_live hx'
                  have a2 := T.slot_live h3
                  rw [e1, ← h4, a2] at a1
                  cases a1
                  rw [h3] at hx'; cases hx'; rfl
                subst this
                rw [ee] at e2
                have e3 := (Prod.mk.inj e2).2
                cases e3
                rintro rfl
                exact hq (hkk.inj hk2)
              · have := h6 r (by omega) (by omega) e' he' e1
                rintro rfl
                exact this (by rw [e2])
      · rename_i hno
        exact absurd h7 (hno _)
    · split
      · rename_i met heq
        have e0 := Option.some.inj (heq.symm.trans h2)
        subst e0
        dsimp only
        refine wpAny_pure (q2 fun hkd => ?_)
        obtain ⟨e, he, ad', ee, hkk⟩ := H.has k hkd
        obtain ⟨n', p1, p2⟩ := T.path e he
        rw [ee] at p1 p2
        dsimp only at p1 p2
        have hlt : n' < n := by
          apply Classical.byContradiction
          intro hge
          by_cases hnn : n' = n
          · subst hnn; exact hn (by rw [p1]; exact List.mem_map.2 ⟨e, he, rfl⟩)
          · exact hn (p2 n (by omega))
        by_cases hri : n' < i
        · exact hbef n' hri e he p1.symm k ad' ee hkk rfl
        · exact h1 n' (by omega) hlt e he p1.symm (by rw [ee])
      · rename_i hno
        exact absurd h2 (hno _)
end
end ST
set_option Elab.async false
set_option linter.all false
set_option maxRecDepth 100000
namespace ST
open PySem PySem.SetTable
section
variable {prog : Program} {w : World} {K : Type} [DecidableEq K] {knd : KeyKind prog w K} {A : Around} {E : Value → Shared → Prop} {s : Shared}
theorem key_stays {h h' : Heap} {ks : List K} {a d : Addr} {o : Obj} {es ep t} (x : IsTupleKey knd h ks a) (ho : h.get? d = some o) (hd : o.data = .set es ep t) (hs : Heap.SameBut d h h') : IsTupleKey knd h' ks a := by
  obtain ⟨o', items, n, ho', hc, hd', hi⟩ := x
  have hne : a ≠ d := by
    rintro rfl
    obtain rfl : o' = o := Option.some.inj (ho'.symm.trans ho)
    rw [hd] at hd'; cases hd'
  exact ⟨o', items, n, (hs.2 a hne).trans ho', hc, hd', hi⟩
theorem store_at {h : Heap} {a : Addr} {o : Obj} {es : Array (Int × Value)} {ep : Nat} {t : SetTable} (ho : h.get? a = some o) (hd : o.data = .set es ep t) (es' : Array (Int × Value)) (t' : SetTable) :
    (h.update a (Obj.putSet es' t')).get? a = some { o with data := .set es' (ep + 1) t' } := by
  have := Heap.get?_update_self (Obj.putSet es' t') ho (by rw [putSet_of es' t' hd]; rfl)
  rw [putSet_of es' t' hd] at this; exact this
theorem grow {m n : Nat} (hm : m ∈ masks) (h1 : (n - 1) * 5 < m * 3) (h2 : m * 3 ≤ n * 5) (hn : n ≤ 4000) : ∃ k, 3 ≤ k ∧ sizeAbove (grown n) = 2 ^ k ∧ n < sizeAbove (grown n) - 1 ∧ sizeAbove (grown n) - 1 ∈ masks ∧ n * 5 < (sizeAbove (grown n) - 1) * 3 ∧ sizeAbove (grown n) ≤ 8192 := by
  simp [masks] at hm
  rcases hm with rfl | rfl | rfl | rfl | rfl | rfl
  · have : n = 5 := by omega
    subst this; exact ⟨5, by decide +kernel⟩
  · have : n = 19 := by omega
    subst this; exact ⟨7, by decide +kernel⟩
  · have : n = 77 := by omega
    subst this; exact ⟨9, by decide +kernel⟩
  · have : n = 307 := by omega
    subst this; exact ⟨11, by decide +kernel⟩
  · have : n = 1229 := by omega
    subst this; exact ⟨13, by decide +kernel⟩
  · omega
theorem relay_ok {a : Addr} {o : Obj} {es : Array (Int × Value)} {ep : Nat} {t : SetTable} {L : List El} {ds : List (List K)} (ho : s.heap.get? a = some o) (hex : o.ExactSet) (hd : o.data = .set es ep t) (T : Tab t es L) (hm : t.mask ∈ masks)
    (h1 : (L.length - 1) * 5 < t.mask * 3) (h2 : t.mask * 3 ≤ L.length * 5) (hn : L.length ≤ 4000)
    (all : ∀ e ∈ L, ∃ k ad, k ∈ ds ∧ e.2 = (tupleKeyHash knd k, .ref ad) ∧ IsTupleKey knd s.heap k ad) (has : ∀ k ∈ ds, ∃ e ∈ L, ∃ ad, e.2 = (tupleKeyHash knd k, .ref ad) ∧ IsTupleKey knd s.heap k ad) (len : L.length = ds.length)
    {Q : Unit → Shared → Prop} (q : ∀ h', Heap.SameBut a s.heap h' → SetT knd h' a ds → Q () { s with heap := h' }) : wpAny (model prog w) A (setRelay a (grown L.length)) Q E s := by
  obtain ⟨k, k3, hk, hlt, hmk, hrm, h8⟩ := grow hm h1 h2 hn
  obtain ⟨t', order, L', e1, e2, T', perm, emask⟩ := relaid_ok (t := t) (es := es) (wanted := grown L.length) hk k3 (by rw [T.size]; exact hlt)
  have hsl : ¬ sizeAbove (grown L.length) > sizeLine := by have := L2.sizeLine_ge; omega
  have hperm : List.Perm (L'.map (·.2)) (L.map (·.2)) := by rw [← T.es]; exact perm
  have hl : L'.length = L.length := by have := hperm.length_eq; simpa using this
  unfold setRelay
  refine wpAny_bind (wpAny_setState_of ho hd T.fits ?_)
  dsimp only
  rw [if_neg hsl, e1]
  refine wpAny_bind (m := _) ?_
  show wpAny _ _ (if ((order.filterMap (es[·]?)).size != es.size) = true then _ else _) _ _ s
  rw [if_neg (by simp [e2])]
  refine wpAny_pure ?_
  dsimp only
  have hz : (order.filterMap (es[·]?)).size ≤ sizeLine := by rw [e2, T.size]; have := L2.sizeLine_ge; omega
  refine wpAny_storeSet_of ho hd ?_ hz
  have sb := Heap.SameBut.update s.heap a (Obj.putSet (order.filterMap (es[·]?)) t')
  refine q _ sb ⟨_, _, _, _, L', store_at ho hd _ t', hex, rfl, T', by rw [emask]; exact hmk, by rw [hl, emask]; exact hrm, fun e he => ?_, fun k hk => ?_, by rw [hl]; exact len⟩
  · have : e.2 ∈ L.map (·.2) := hperm.mem_iff.1 (List.mem_map.2 ⟨e, he, rfl⟩)
    obtain ⟨e', he', ee⟩ := List.mem_map.1 this
    obtain ⟨k, ad, k1, k2, k3⟩ := all e' he'
    exact ⟨k, ad, k1, by rw [← ee]; exact k2, key_stays k3 ho hd sb⟩
  · obtain ⟨e, he, ad, k2, k3⟩ := has k hk
    have : e.2 ∈ L'.map (·.2) := hperm.mem_iff.2 (List.mem_map.2 ⟨e, he, rfl⟩)
    obtain ⟨e', he', ee⟩ := List.mem_map.1 this
    exact ⟨e', he', ad, by rw [ee]; exact k2, key_stays k3 ho hd sb⟩
theorem add_ok {a ad : Addr} {ds : List (List K)} {k : List K} (hS : SetT knd s.heap a ds) (hu : A.units < cLine) (hk : IsTupleKey knd s.heap k ad) (hb : ds.length + 1 ≤ 4000) {Q : Bool → Shared → Prop}
    (q : ∀ h' b, Heap.SameBut a s.heap h' → SetT knd h' a (if k ∈ ds then ds else ds ++ [k]) → Q b { s with heap := h' }) : wpAny (model prog w) A (setAddHashed a (.ref ad) (tupleKeyHash knd k)) Q E s := by
  obtain ⟨o, es, ep, t, L, ho, hex, hd, H⟩ := id hS
  have T := H.tab
  obtain ⟨n, hn1, hn2, hn3⟩ := T.free (tupleKeyHash knd k)
  have hm := turns_le H.mask
  unfold setAddHashed
  refine wpAny_holding ?_
  show wpAny _ _ (setAddHashedIn a (.ref ad) (tupleKeyHash knd k) (99999 + 1)) _ _ s
  unfold setAddHashedIn
  refine wpAny_bind (wpAny_setState_of ho hd T.fits ?_)
  dsimp only
  have hsc : byScan (.ref ad) es = false := by unfold byScan; simp [Value.scannable]
  rw [hsc]
  simp only [Bool.false_eq_true, if_false]
  unfold setSearch
  refine wpAny_bind (search_ok ho hd H hu hk hn2 hn3 hn1 (fun hin => ?_) (fun hnot => ?_) 100000 0 (by omega) (by omega) (fun r hr => by omega) none rfl)
  · dsimp only
    refine wpAny_pure ?_
    have := q s.heap false (Heap.SameBut.refl a s.heap) (by rw [if_pos hin]; exact hS)
    have e : s = { s with heap := s.heap } := by cases s; rfl
    rw [e]; exact this
  · dsimp only
    refine wpAny_bind (wpAny_setState_of ho hd T.fits ?_)
    dsimp only
    have hLm : L.length + 1 ≤ t.mask := by have := H.room; have := H.mask; simp [masks] at this; omega
    have fin : ∀ (pn : Bool) (t2 : SetTable), t2 = { (t.put (pos t.mask (tupleKeyHash knd k) n)).1 with plain := pn } → wpAny (model prog w) A (do
        storeSet a (insertAt es (t.put (pos t.mask (tupleKeyHash knd k) n)).2 (tupleKeyHash knd k, .ref ad)) t2
        if (!false && t2.tooFull) = true then do setRelay a (grown (es.size + 1)); pure true
        else pure true) Q E s := fun pn t2 et2 => by
      have T2 := T.put (x := .ref ad) hn2 hn3 hLm pn
      rw [← et2] at T2
      have tm : t2.mask = t.mask := by rw [et2]; rfl
      have il := ins_len (L := L) (e := (pos t.mask (tupleKeyHash knd k) n, (tupleKeyHash knd k, Value.ref ad)))
      generalize insertAt es (t.put (pos t.mask (tupleKeyHash knd k) n)).2 (tupleKeyHash knd k, .ref ad) = es2 at *
      have hL4 : L.length + 1 ≤ 4000 := by have := H.len; omega
      have hz : es2.size ≤ sizeLine := by rw [T2.size, il]; have := L2.sizeLine_ge; omega
      refine wpAny_bind (wpAny_storeSet_of ho hd ?_ hz)
      have sb := Heap.SameBut.update s.heap a (Obj.putSet es2 t2)
      have ho2 := store_at ho hd es2 t2
      have hk2 := key_stays hk ho hd sb
      have all : ∀ e ∈ ins L (pos t.mask (tupleKeyHash knd k) n, (tupleKeyHash knd k, Value.ref ad)), ∃ k' ad', k' ∈ ds ++ [k] ∧ e.2 = (tupleKeyHash knd k', .ref ad') ∧ IsTupleKey knd (s.heap.update a (Obj.putSet es2 t2)) k' ad' := fun e he => by
        rcases mem_ins.1 he with rfl | he
        · exact ⟨k, ad, by simp, rfl, hk2⟩
        · obtain ⟨k', ad', a1, a2, a3⟩ := H.all e he
          exact ⟨k', ad', by simp [a1], a2, key_stays a3 ho hd sb⟩
      have has : ∀ k' ∈ ds ++ [k], ∃ e ∈ ins L (pos t.mask (tupleKeyHash knd k) n, (tupleKeyHash knd k, Value.ref ad)), ∃ ad', e.2 = (tupleKeyHash knd k', .ref ad') ∧ IsTupleKey knd (s.heap.update a (Obj.putSet es2 t2)) k' ad' := fun k' hk' => by
        rcases List.mem_append.1 hk' with hk' | hk'
        · obtain ⟨e, he, ad', a2, a3⟩ := H.has k' hk'
          exact ⟨e, mem_ins.2 (.inr he), ad', a2, key_stays a3 ho hd sb⟩
        · simp at hk'; subst hk'
          exact ⟨_, mem_ins.2 (.inl rfl), ad, rfl, hk2⟩
      have len : (ins L (pos t.mask (tupleKeyHash knd k) n, (tupleKeyHash knd k, Value.ref ad))).length = (ds ++ [k]).length := by rw [il, H.len]; simp
      have hfill : t2.fill = L.length + 1 := by
        unfold SetTable.fill
        rw [T2.du, ← Array.length_toList, T2.pl, List.length_map, il]; rfl
      by_cases hfull : t2.tooFull = true
      · rw [hfull]
        simp only [Bool.not_false, Bool.and_self, if_true]
        have hf2 : t.mask * 3 ≤ (L.length + 1) * 5 := by
          unfold SetTable.tooFull at hfull
          rw [hfill, tm] at hfull
          simpa using hfull
        have hrm := H.room
        have hsz : es.size + 1 = (ins L (pos t.mask (tupleKeyHash knd k) n, (tupleKeyHash knd k, Value.ref ad))).length := by rw [il, T.size]
        rw [hsz]
        refine wpAny_bind (relay_ok (s := { s with heap := s.heap.update a (Obj.putSet es2 t2) }) ho2 hex rfl T2 (by rw [tm]; exact H.mask) (by rw [il, tm]; simpa using hrm) (by rw [il, tm]; exact hf2) (by rw [il]; exact hL4) all has len fun h' sb' S' => ?_)
        refine wpAny_pure (q h' true (sb.trans sb') ?_)
        rw [if_neg hnot]; exact S'
      · have hfull' : t2.tooFull = false := by simpa using hfull
        rw [hfull']
        simp only [Bool.and_false, Bool.false_eq_true, if_false]
        have hf2 : (L.length + 1) * 5 < t.mask * 3 := by
          unfold SetTable.tooFull at hfull'
          rw [hfill, tm] at hfull'
          simpa using hfull'
        refine wpAny_pure (q _ true sb ?_)
        rw [if_neg hnot]
        exact ⟨_, _, _, _, _, ho2, hex, rfl, T2, by rw [tm]; exact H.mask, by rw [il, tm]; exact hf2, all, has, len⟩
    split
    · refine wpAny_bind (hashBy_tup hk fun b => ?_)
      cases b
      · exact fin false _ rfl
      · exact fin _ _ rfl
    · refine wpAny_bind (wpAny_pure ?_)
      exact fin _ _ rfl
end
end ST
set_option Elab.async false
set_option linter.all false
set_option maxRecDepth 100000
namespace ST
open PySem PySem.SetTable
def dd {κ : Type} [DecidableEq κ] (l : List κ) : List κ := l.foldl (fun ds k => if k ∈ ds then ds else ds ++ [k]) []
theorem dd_snoc {κ : Type} [DecidableEq κ] (l : List κ) (k : κ) : dd (l ++ [k]) = if k ∈ dd l then dd l else dd l ++ [k] := by unfold dd; rw [List.foldl_append]; rfl
theorem dd_snocs {κ : Type} [DecidableEq κ] : ∀ (l : List κ), (dd l).length ≤ l.length := by
  intro l
  induction hn : l.length generalizing l with
  | zero => have : l = [] := List.length_eq_zero_iff.1 hn; subst this; simp [dd]
  | succ n ih =>
    have hne : l ≠ [] := by rintro rfl; simp at hn
    have e := List.dropLast_concat_getLast hne
    rw [← e, dd_snoc]
    have := ih l.dropLast (by simp; omega)
    split
    · omega
    · simp; omega
section
variable {prog : Program} {w : World} {K : Type} [DecidableEq K] {knd : KeyKind prog w K} {A : Around} {R : Result → Shared → Prop} {E : Value → Shared → Prop} {s : Shared}
def Keyed (knd : KeyKind prog w K) (h : Heap) (vs : List Value) (ks : List (List K)) : Prop := vs.length = ks.length ∧ ∀ (i : Nat) v, vs[i]? = some v → ∃ ad k, v = .ref ad ∧ ks[i]? = some k ∧ IsTupleKey knd h k ad
theorem loop_ok {I S l : Addr} {items : Array Value} {ks : List (List K)} (W : WalksS prog w A.in1 I [I, l] [I] (fun a b => b = a) items.size (fun i v => items[i]? = some v) (fun i s => s.heap.IsListIter I l i ∧ s.heap.IsList l items)) (hS : S ∉ [I, l]) (hu : A.in1.units < cLine) (hb : items.size < 4000) :
    ∀ (k i : Nat) (s : Shared), items.size - i = k → i ≤ items.size → (s.heap.IsListIter I l i ∧ s.heap.IsList l items) → Keyed knd s.heap items.toList ks → SetT knd s.heap S (dd (ks.take i)) →
      (∀ s', Moved [S, I] (fun a b => b = a) s s' → SetT knd s'.heap S (dd ks) → R (.ok (.ret .none)) s') → codeAny (model prog w) A (.builtin "set.update.loop" ⟨[.ref S, .ref I], []⟩) R s := by
  have SI : S ≠ I := fun z => hS (by simp [z])
  have Sl : S ≠ l := fun z => hS (by simp [z])
  intro k
  induction k with
  | zero =>
    intro i s hk hi st ky hT hR
    have ei : i = items.size := by omega
    subst ei
    refine codeAny_builtin (PyProof.Rows.F.entry_set_update_loop) ?_
    rw [Around.under_plainId (PyProof.Rows.F.plain_set_update_loop) _]
    show wpAny _ A.in1 (pyNext (.ref I) >>= _) _ _ s
    refine wpAny_bind (W.done s _ _ st fun s' hm => ?_)
    show wpAny _ A.in1 (ret Value.none) _ _ s'
    refine wpAny_pure (hR s' ⟨fun b o hb e => hm.heap b o (by simp at hb ⊢; exact hb.2) e, hm.gens, hm.drawn, hm.os, hm.toks⟩ ?_)
    have hks : ks.take items.size = ks := List.take_of_length_le (by have := ky.1; simp at this; omega)
    rw [hks] at hT
    obtain ⟨o, es, ep, t, L, ho, hex, hd, H⟩ := hT
    have keep : ∀ k ad, IsTupleKey knd s.heap k ad → IsTupleKey knd s'.heap k ad := fun k ad ⟨o', its, m, h1, h2, h3, h4⟩ => by
      refine ⟨o', its, m, hm.heap ad o' (fun z => ?_) h1, h2, h3, h4⟩
      simp at z; subst z
      obtain ⟨⟨oi, e1, e2, e3⟩, _⟩ := st
      rw [h1] at e1; cases e1; rw [h2] at e2; simp at e2
    exact ⟨o, es, ep, t, L, hm.heap S o (by simpa using SI) ho, hex, hd, H.tab, H.mask, H.room, fun e he => by obtain ⟨k, ad, a1, a2, a3⟩ := H.all e he; exact ⟨k, ad, a1, a2, keep k ad a3⟩, fun k hk => by obtain ⟨e, he, ad, a2, a3⟩ := H.has k hk; exact ⟨e, he, ad, a2, keep k ad a3⟩, H.len⟩
  | succ k ih =>
    intro i s hk hi st ky hT hR
    have hlt : i < items.size := by omega
    refine codeAny_builtin (PyProof.Rows.F.entry_set_update_loop) ?_
    rw [Around.under_plainId (PyProof.Rows.F.plain_set_update_loop) _]
    show wpAny _ A.in1 (pyNext (.ref I) >>= _) _ _ s
    refine wpAny_bind (W.item i s _ _ hlt st fun v s' hP st' hm => ?_)
    have keep : ∀ k ad, IsTupleKey knd s.heap k ad → IsTupleKey knd s'.heap k ad := fun k ad ⟨o', its, m, h1, h2, h3, h4⟩ => by
      refine ⟨o', its, m, hm.heap ad o' (fun z => ?_) h1, h2, h3, h4⟩
      simp at z; subst z
      obtain ⟨⟨oi, e1, e2, e3⟩, _⟩ := st
      rw [h1] at e1; cases e1; rw [h2] at e2; simp at e2
    have hT' : SetT knd s'.heap S (dd (ks.take i)) := by
      obtain ⟨o, es, ep, t, L, ho, hex, hd, H⟩ := hT
      exact ⟨o, es, ep, t, L, hm.heap S o (by simpa using SI) ho, hex, hd, H.tab, H.mask, H.room, fun e he => by obtain ⟨k, ad, a1, a2, a3⟩ := H.all e he; exact ⟨k, ad, a1, a2, keep k ad a3⟩, fun k hk => by obtain ⟨e, he, ad, a2, a3⟩ := H.has k hk; exact ⟨e, he, ad, a2, keep k ad a3⟩, H.len⟩
    have ky' : Keyed knd s'.heap items.toList ks := ⟨ky.1, fun i v hv => by obtain ⟨ad, k, a1, a2, a3⟩ := ky.2 i v hv; exact ⟨ad, k, a1, a2, keep k ad a3⟩⟩
    obtain ⟨ad, key, rfl, hkey, htk⟩ := ky'.2 i v (by rw [Array.getElem?_toList]; exact hP)
    show wpAny _ A.in1 (holding [Value.ref ad] (setAdd S (.ref ad)) >>= _) _ _ s'
    refine wpAny_bind (wpAny_holding ?_)
    unfold setAdd
    refine wpAny_holding ?_
    refine wpAny_bind (wpAny_pyHash_tuple hu htk ?_)
    have hdl := dd_snocs (ks.take i)
    have hti : (ks.take i).length ≤ i := by simp; omega
    refine add_ok (s := { s' with toks := s'.toks + (key.length + 1) }) hT' hu htk (by omega) fun h' b sb S2 => ?_
    obtain ⟨oS, _, epS, tS, LS, hoS, _, hdS, _⟩ := hT'
    have e2 : (if key ∈ dd (ks.take i) then dd (ks.take i) else dd (ks.take i) ++ [key]) = dd (ks.take (i + 1)) := by
      rw [List.take_succ, hkey]
      show _ = dd (ks.take i ++ [key])
      rw [dd_snoc]
      by_cases hmm : key ∈ dd (ks.take i) <;> simp [hmm]
    rw [e2] at S2
    refine wpAny_pure ⟨plainId_quiet (PyProof.Rows.F.plain_set_update_loop) _, ih (i + 1) _ (by omega) hlt ⟨st'.1.at fun o e => (sb.2 I (Ne.symm SI)).trans e, st'.2.at fun o e => (sb.2 l (Ne.symm Sl)).trans e⟩ ⟨ky'.1, fun i v hv => ?_⟩ S2 fun s'' hm'' hS'' => ?_⟩
    · obtain ⟨ad, k, a1, a2, a3⟩ := ky'.2 i v hv
      exact ⟨ad, k, a1, a2, key_stays a3 hoS hdS sb⟩
    · refine hR s'' ⟨fun b o hb e => hm''.heap b o hb ?_, hm''.gens.trans hm.gens, hm''.drawn.trans hm.drawn, hm''.os.trans hm.os, ?_⟩ hS''
      · simp at hb
        exact (sb.2 b hb.1).trans (hm.heap b o (by simpa using hb.2) e)
      · have h1 := hm.toks
        have h2 : s'.toks + (key.length + 1) ≤ s''.toks := hm''.toks
        omega
end
end ST
set_option Elab.async false
set_option linter.all false
set_option maxRecDepth 100000
namespace ST
open PySem PySem.SetTable
section
variable {prog : Program} {w : World} {K : Type} [DecidableEq K] {knd : KeyKind prog w K} {A : Around} {E : Value → Shared → Prop} {s : Shared}
abbrev emptyO (led : Bool) : Obj := { cls := .type "set", dict := none, data := .set #[] 0 (.fresh 0 0 led) }
theorem setT_empty {h : Heap} {a : Addr} {led : Bool} (ho : h.get? a = some (emptyO led)) : SetT knd h a [] :=
  ⟨_, #[], 0, _, [], ho, ⟨rfl, rfl, rfl⟩, rfl, ⟨rfl, rfl, by simp, by simp, rfl, by simp, ⟨3, by decide, rfl⟩, by simp⟩, by simp [masks, SetTable.fresh], by simp [SetTable.fresh], by simp, by simp, rfl⟩
set_option maxHeartbeats 3200000 in
theorem call_set {l : Addr} {items : Array Value} {ks : List (List K)} {Q : Value → Shared → Prop} (hh : A.handled = none) (hu : A.units + 8 < cLine) (hl : s.heap.IsList l items) (ky : Keyed knd s.heap items.toList ks) (hb : items.size < 4000)
    (q : ∀ (h' : Heap) (tk : Nat), SetT knd h' s.heap.objs.size (dd ks) → (∀ b o, b < s.heap.objs.size → s.heap.get? b = some o → h'.get? b = some o) → Q (.ref s.heap.objs.size) { s with heap := h', toks := tk }) :
    wpAny (model prog w) A (call (.type "set") [.ref l]) Q E s := by
  obtain ⟨c, tl, hmro⟩ := F.called_set.mro
  have hmade := F.called_set.made
  have hsub := F.called_set.sub
  refine wpAny_call (codeAny_of_tree ?_)
  show wpAny _ _ (callAny (.type "set") _) _ _ _
  refine wpAny_pure ⟨Code.quiet_builtin _ (by decide +kernel), codeAny_builtin (F.entry_type_call) ?_⟩
  rw [Around.under_plain (weight_type_call_type "set" [.ref l] []) rfl]
  have h1 := F.called_set.notType
  have h2 := F.called_set.canCreate
  have hct := F.typeCall_set_1 (.ref l)
  repeat (any_goals (first | assumption | wp_step))
  refine codeAny_mono (code_set_new_1 (.ref l) (E := E) (Q₁ := fun obj s₁ => ∃ led : Bool, obj = .ref s.heap.objs.size ∧ s₁ = { s with heap := s.heap.push (emptyO led) }) fun led => ⟨led, rfl, rfl⟩) fun r s₁ hr => ?_
  cases r with
  | error e => exact hr
  | ok fl =>
    cases fl with
    | ret obj =>
      obtain ⟨led, rfl, rfl⟩ := hr
      have hS : (s.heap.push (emptyO led)).get? s.heap.objs.size = some (emptyO led) := Heap.get?_push_size _ rfl
      have hT : Shared.TypeIs { s with heap := s.heap.push (emptyO led) } (.ref s.heap.objs.size) "set" := ⟨_, hS, rfl⟩
      have hli := F.called_set.init.lookup
      have hbi := F.called_set.init.bind (.ref s.heap.objs.size)
      repeat (any_goals (first | assumption | wp_step))
      refine codeAny_mono (codeAny_call_builtin (R := wants (fun r s₂ => r = .none ∧ ∃ h' tk, s₂ = { s with heap := h', toks := tk } ∧ SetT knd h' s.heap.objs.size (dd ks) ∧
          (∀ b o, b < s.heap.objs.size → s.heap.get? b = some o → h'.get? b = some o)) E) F.called_set.init.plain F.entry_set_init (check_set_init_1 hT ?_)) fun r₂ s₂ hr₂ => ?_
      · obtain ⟨ol, hol, hcl, nl, hdl⟩ := id hl
        obtain ⟨ocls, odict, odata, oslots⟩ := ol
        simp only at hcl hdl
        subst hcl; subst hdl
        have hol' : (s.heap.push (emptyO led)).get? l = some { cls := .type "list", dict := odict, data := .seq items nl, slots := oslots } := Heap.get?_push_of_some _ hol
        have hsls := F.sub_list_set
        have hslf := F.sub_list_frozenset
        have hne : (Value.type "list" == Value.type "dict") = false := by decide
        have hl1 : (s.heap.push (emptyO led)).IsList l items := ⟨_, hol', rfl, nl, rfl⟩
        unfold Builtin.«set.__init__» noKeywords Builtin.Frozenset.updateFrom
        generalize hPI : pyIter = PI
        wp_walk
        subst hPI
        refine wpAny_pyIter_list hl1 ?_
        refine wpAny_bind (wpAny_runValue ?_)
        have hlS : @LT.lt Nat _ l s.heap.objs.size := Heap.lt_size hol
        have hh3 : A.in1.in1.in1.handled = none := by simp [hh]
        have hsz : (s.heap.push (emptyO led)).objs.size = s.heap.objs.size + 1 := Heap.size_push ..
        have hneI : l ≠ (s.heap.push (emptyO led)).objs.size := by rw [hsz]; exact Nat.ne_of_lt (by omega)
        have hSf : s.heap.objs.size ∉ [(s.heap.push (emptyO led)).objs.size, l] := by
          rw [hsz]; simp only [List.mem_cons, List.not_mem_nil, or_false, not_or]
          exact ⟨Nat.ne_of_lt (by omega), Nat.ne_of_gt hlS⟩
        have hget : ((s.heap.push (emptyO led)).push { cls := .type "list_iterator", data := .fields #[.ref l, .int 0 0] }).get? s.heap.objs.size = some (emptyO led) := Heap.get?_push_of_some _ hS
        refine loop_ok (knd := knd) (ks := ks) ((Walks.list hh3 _ l hneI items).toS) hSf ?hu hb (items.size - 0) 0 _ (by omega) (Nat.zero_le _) ⟨⟨_, Heap.get?_push_size _ rfl, rfl, rfl⟩, (hl1.push _)⟩ ⟨ky.1, fun i v hv => ?hk⟩ (by rw [List.take_zero]; exact setT_empty hget) ?hR
        case hu => show A.units + 1 + 1 + 1 < cLine; omega
        case hk =>
          obtain ⟨ad, k, a1, a2, o', its, m, b1, b2⟩ := ky.2 i v hv
          exact ⟨ad, k, a1, a2, o', its, m, Heap.get?_push_of_some _ (Heap.get?_push_of_some _ b1), b2⟩
        case hR =>
          intro s' hm hS'
          obtain ⟨h', g', d', tk', os'⟩ := s'
          have eg : g' = s.gens := hm.gens
          have ed : d' = s.drawn := hm.drawn
          have eo : os' = s.os := hm.os
          subst eg; subst ed; subst eo
          show wpAny _ _ _ _ _ _
          refine wpAny_pure ?_
          show wpAny _ _ (ret Value.none) _ _ _
          refine wpAny_pure ⟨rfl, h', tk', rfl, hS', fun b o hb e => ?_⟩
          have hb1 : b ≠ s.heap.objs.size := Nat.ne_of_lt hb
          have hb2 : b ≠ (s.heap.push (emptyO led)).objs.size := by rw [hsz]; exact Nat.ne_of_lt (Nat.lt_succ_of_lt hb)
          exact hm.heap b o (by simp only [List.mem_cons, List.not_mem_nil, or_false, not_or]; exact ⟨hb1, hb2⟩) (Heap.get?_push_of_some _ (Heap.get?_push_of_some _ e))
      · cases r₂ with
        | error e => exact hr₂
        | ok fl₂ =>
          cases fl₂ with
          | ret r =>
            obtain ⟨rfl, h', tk, rfl, hS', hk'⟩ := hr₂
            repeat (any_goals (first | assumption | wp_step))
            exact q _ _ hS' hk'
          | _ => exact hr₂.elim
    | _ => exact hr.elim
end
end ST
set_option Elab.async false
set_option linter.all false
set_option maxRecDepth 100000
namespace L3
open PySem L2
def SetLen (p : Addr) (n : Nat) (h : Heap) : Prop := ∃ o es ep t, h.get? p = some o ∧ o.ExactSet ∧ o.data = .set es ep t ∧ t.fits es.size = true ∧ es.size = n
section
variable {X : Cx}
def rSet (K : PySem.W.Frag) : List V → Hp → VK → Prop := fun xs H Q => ∃ (a : Addr) (vs : List V) (ks : List (List Key)), xs = [.ref a] ∧ SqL K H a vs ∧ vs.length = ks.length ∧ vs.length < 4000 ∧ (∀ (i : Nat) v, vs[i]? = some v → ∃ b k, v = .ref b ∧ ks[i]? = some k ∧ H b = some (.tup (k.map kV))) ∧
  ∀ p, H p = none → Q (.ref p) (upd H p (.ext (SetLen p (ST.dd ks).length)))
theorem call_setR (hc : X.calm = true) (hu : X.A.units + 8 < cLine) : CallR X (.type "set") (rSet X.K) := by
  intro pins s σ H xs us Q I r h
  obtain ⟨a, vs, ks, rfl, hq, hl, hb, hk, q⟩ := h
  obtain ⟨u, rfl, ru⟩ := vals1 r
  cases ru
  obtain ⟨its, rv, p, hz⟩ := I.list hq
  have hlen := rv.length
  refine ST.call_set (knd := mixKind X.prog X.w) (ks := ks) (I.ok.hd hc) hu p.isList ⟨by simp; omega, fun i v hv => ?_⟩ (by simp; omega) fun h' tk hS keep => ?_
  · simp at hv
    have hi : i < vs.length := by rw [hlen]; exact (List.getElem?_eq_some_iff.mp hv).1
    obtain ⟨b, k, e1, e2, e3⟩ := hk i vs[i] (List.getElem?_eq_getElem hi)
    obtain ⟨u, hu', ru⟩ := rv.get (List.getElem?_eq_getElem hi)
    rw [hv] at hu'
    cases hu'
    rw [e1] at ru
    cases ru
    exact ⟨b, k, rfl, e2, key_of I.hok e3⟩
  · have keep' : ∀ b o, s.heap.get? b = some o → h'.get? b = some o := fun b o e => keep b o (Heap.lt_size e) e
    obtain ⟨o, es, ep, t, L, ho, hex, hd, HH⟩ := hS
    refine ⟨.ref s.heap.objs.size, _, I.laid (t' := tk) (o := .ext (SetLen s.heap.objs.size (ST.dd ks).length)) keep' (Nat.le_refl _) ?_, rfl, q _ (I.hok.fresh (Nat.le_refl _))⟩
    refine ⟨⟨o, es, ep, t, ho, hex, hd, HH.tab.fits, by rw [HH.tab.size]; exact HH.len⟩, ⟨o, ho⟩, fun h1 h2 ⟨o, es, ep, t, g1, g2⟩ k => ⟨o, es, ep, t, k o g1, g2⟩⟩
theorem call_lenS : CallR X (.builtin "len") (fun xs H Q => ∃ p n, xs = [V.ref p] ∧ H p = some (.ext (SetLen p n)) ∧ n < 100000 ∧ Q (.int n) H) := by
  intro pins s σ H xs us Q I r h
  obtain ⟨p, n, rfl, hp, hn, q⟩ := h
  obtain ⟨u, rfl, ru⟩ := vals1 r
  cases ru
  obtain ⟨⟨o, es, ep, t, ho, hex, hd, hf, hz⟩, _⟩ := I.hok p _ hp
  refine call_len_set ho hex hd hf (by omega) ?_
  rw [hz]
  exact ⟨.int n, H, I.tok _, ⟨_, rfl⟩, q⟩
def keysL : List D → Option (List (List Key))
  | [] => some []
  | .tup l :: ds => (keysD l).bind fun k => (keysL ds).map (k :: ·)
  | _ => none
theorem keysL_at {K : PySem.W.Frag} {F : Hp} : ∀ {ds : List D} {ks : List (List Key)} {vs : List V}, keysL ds = some ks → Reps K F ds vs → vs.length = ks.length ∧ ∀ (i : Nat) v, vs[i]? = some v → ∃ b k, v = .ref b ∧ ks[i]? = some k ∧ F b = some (.tup (k.map kV))
  | [], _, _, e, r => by cases e; rw [r.unnil]; simp
  | d :: ds, ks, _, e, r => by
    obtain ⟨v, vs, rfl, rv, rs⟩ := r.uncons
    cases d with
    | tup l =>
      simp only [keysL] at e
      cases e1 : keysD l with
      | none => rw [e1] at e; cases e
      | some k =>
        rw [e1] at e
        cases e2 : keysL ds with
        | none => rw [e2] at e; cases e
        | some ks' =>
          rw [e2] at e; cases e
          obtain ⟨h1, h2⟩ := keysL_at e2 rs
          refine ⟨by simp [h1], fun i v' hv => ?_⟩
          cases i with
          | zero =>
            simp at hv; subst hv
            rw [Rep] at rv
            obtain ⟨b, us, rfl, hb, hr⟩ := rv
            rw [keys_are e1 hr] at hb
            exact ⟨b, k, rfl, rfl, hb⟩
          | succ i =>
            obtain ⟨b, k', a1, a2, a3⟩ := h2 i v' (by simpa using hv)
            exact ⟨b, k', a1, by simpa using a2, a3⟩
    | _ => cases e
def lenSetD : D → Option (Kd × D)
  | .lst xs => match keysL xs with
    | some ks => if xs.length < 4000 then some (.fz, .int (ST.dd ks).length) else none
    | none => none
  | _ => none
def lenSetR : R → R
  | .ok _ d => toR (lenSetD d)
  | r => r
def eLenSet (f : Ev → R) (ev : Ev) : R := lenSetR (f ev)
variable {F0 H0 : Hp} {Ψ : Psi}
theorem v_lenset {e : Expr} {f : Ev → R} {p p2 pos pos2 : Pos} (hc : X.calm = true) (hu : X.A.units + 100 < cLine) (hm : X.mg "len" = none) (hs : X.mg "set" = none) (he : VE X F0 H0 Ψ e f)
    (hg : Gl X "len" := by rfl) (hg2 : Gl X "set" := by rfl)
    (h1 : starEach [e] X.env = (false, eval e X.env) :: starEach [] X.env := by rfl)
    (h2 : starEach [.Call (.Name "set" p2) [e] [] pos2] X.env = (false, eval (.Call (.Name "set" p2) [e] [] pos2) X.env) :: starEach [] X.env := by rfl) :
    VE X F0 H0 Ψ (.Call (.Name "len" p) [.Call (.Name "set" p2) [e] [] pos2] [] pos) (eLenSet f) :=
  (pe_callB call_lenS hg hm PySem.boot_len (pa_cons (pe_callTy (call_setR hc (by omega)) hg2 hs (by rfl) (pa_cons he pa_nil h1) (by decide) (by decide) h1) pa_nil h2) (by decide) (by decide) h2).mono fun σ H Q h => by
    obtain ⟨F, ev, fi, m⟩ := h
    refine ⟨F, ev, fi, ?_⟩
    simp only [eLenSet] at m
    cases q1 : f ev with
    | no => rw [q1] at m; exact m
    | ex C => rw [q1] at m; exact m
    | ok k d =>
      rw [q1] at m
      intro F1 x H1 p1
      have m : match toR (lenSetD d) with
        | .ok k d => ∀ F' v H', Post X.K F H k d F' v H' → Q v H'
        | .ex C => ∀ F' H', Step F0 H0 F' H' → Ψ C H'
        | .no => False := m
      cases d with
      | lst xs =>
        simp only [lenSetD] at m
        cases e1 : keysL xs with
        | none => rw [e1] at m; exact m.elim
        | some ks =>
          rw [e1] at m
          dsimp only at m
          by_cases hb : xs.length < 4000
          · rw [if_pos hb] at m
            obtain ⟨a, vs, rfl, ha, hr⟩ := p1.val.rd.lst p1.st.sub
            obtain ⟨g1, g2⟩ := keysL_at e1 hr
            refine ⟨a, vs, ks, rfl, SqL.of ha, g1, by rw [← hr.length]; exact hb, fun i v hv => ?_, fun pp hp => ?_⟩
            · obtain ⟨b, k', a1, a2, a3⟩ := g2 i v hv
              exact ⟨b, k', a1, a2, p1.st.sub _ _ a3⟩
            · have up : Same H1 (upd H1 pp (.ext (SetLen pp (ST.dd ks).length))) := fun b u e => by
                rw [upd_ne]; exact e
                rintro rfl; rw [hp] at e; cases e
              have hd := ST.dd_snocs ks
              have hxl : xs.length = ks.length := by rw [hr.length]; exact g1
              exact ⟨pp, _, rfl, upd_same, by omega, m F1 _ _ ⟨p1.st.trans ⟨.refl _, p1.st.sub.trans up, up, fun _ _ e => .inl e⟩, by rw [Val, Rep]⟩⟩
          · rw [if_neg hb] at m; exact m.elim
      | _ => exact m.elim
end
end L3
set_option Elab.async false
set_option linter.all false
set_option maxRecDepth 100000
namespace L2
open PySem PySem.Spec PyProof.Rows
section
variable {X : Cx} {a b c d : Expr} {ta tb tc td : TE} {pos : Pos}
end
end L2
namespace L3
open PySem L2
section
variable {X : Cx} {K : PySem.W.Frag} {F0 H0 F H F' H' : Hp} {Ψ : Psi} {σ : St} {ev : Ev}
def chn3R (g g' g'' : G2) (r1 r2 r3 r4 : R) : R := match r1 with
  | .ok _ a => match r2 with
    | .ok _ b => match g a b with
      | some (_, .bl t) => if t then chnR g' g'' r2 r3 r4 else .ok .fz (.bl false)
      | _ => .no
    | r => r
  | r => r
def eChain3 (g g' g'' : G2) (f1 f2 f3 f4 : Ev → R) (ev : Ev) : R := chn3R g g' g'' (f1 ev) (f2 ev) (f3 ev) (f4 ev)
end
end L3
set_option Elab.async false
set_option linter.all false
set_option maxRecDepth 100000
namespace L2
open PySem PySem.Spec PyProof.Rows
section
variable {X : Cx} {tg : Expr}
theorem PI.or {g e : Expr} {t t' : TI} (h : PI X g e t) (h' : PI X g e t') : PI X g e (fun σ H R => t σ H R ∨ t' σ H R) := fun pins s σ H R I q => by
  rcases q with q | q
  · exact h pins s σ H R I q
  · exact h' pins s σ H R I q
end
end L2
namespace L3
open PySem L2
section
variable {X : Cx} {F0 H0 : Hp} {Ψ : Psi} {tg a : Expr} {fs : Ev → RA} {pos : Pos}
def rngW : RA → RI
  | .ok [(_, .int j)] => if j < 2 ^ 62 then .ok (rangeD 0 j.toNat) else .no
  | .ex C => .ex C
  | _ => .no
def iRngW (f : Ev → RA) (ev : Ev) : RI := rngW (f ev)
end
end L3
namespace L3
open PySem L2
theorem v_glob {X : Cx} {F0 H0 : Hp} {Ψ : Psi} {x : Str} {i : Int} {pos : Pos} (hm : ∃ t, X.mg x = some (.int i t)) (hg : Gl X x := by rfl) (hd : (x == ("__debug__" : Str)) = false := by decide) : VE X F0 H0 Ψ (.Name x pos) (conR (.int i)) := by
  obtain ⟨t, h⟩ := hm
  exact (pe_glob (v := .int i) hg h ⟨t, rfl⟩ hd).mono fun _ _ _ h => tC_of (by rw [Rep]) h
end L3
set_option Elab.async false
set_option linter.all false
set_option maxRecDepth 100000
namespace L3
open PySem L2
def getR : R → R → R → R
  | .ok _ a, .ok _ b, .ok .fz c => match lookD a b with
    | some o => .ok .fz (o.getD c)
    | none => .no
  | .ex C, _, _ => .ex C
  | _, _, _ => .no
def eGet (f1 f2 f3 : Ev → R) (ev : Ev) : R := getR (f1 ev) (f2 ev) (f3 ev)
section
variable {X : Cx} {K : PySem.W.Frag} {F0 H0 : Hp} {Ψ : Psi} {σ : St} {H : Hp}
variable {a b c : Expr} {f1 f2 f3 : Ev → R} {apos cpos : Pos}
end
end L3
set_option Elab.async false
set_option linter.all false
set_option maxRecDepth 100000
namespace L3
open PySem L2
def findE (j : Nat) (c : Ev → R) (g : Ev → Fl) : List D → Ev → Fl
  | [], ev => .nx ev
  | d :: ds, ev => match c (ev.set j (some (.fz, d))) with
    | .ok _ (.bl true) => (match g (ev.set j (some (.fz, d))) with
      | .rt k d => .rt k d
      | .ex C => .ex C
      | _ => .no)
    | .ok _ (.bl false) => findE j c g ds (ev.set j (some (.fz, d)))
    | .ex C => .ex C
    | _ => .no
def findG (i j : Nat) (c : Ev → R) (g : Ev → Fl) (ev : Ev) : Fl := match ev[i]? with
  | some (some (.ow, .lst ds)) => findE j c g ds ev
  | _ => .no
section
variable {X : Cx} {K : PySem.W.Frag} {F0 H0 : Hp} {Ψ : Psi} {σ : St} {H : Hp}
variable {c : Expr} {f : Ev → R} {g : Ev → Fl} {body : List Stmt} {x y : Str} {p1 p2 pi pos : Pos}
end
end L3
set_option Elab.async false
set_option linter.all false
set_option maxRecDepth 100000
namespace TSrt
open PySem PySem.W PyProof.Rows
section
variable {M : Model} {A : Around} {E : Value → Shared → Prop} {σ : Type}
theorem kasC_mono {α : Type} {m : StateT σ Sem α} {Q Q' : α → σ → Shared → Prop} {st : σ} {s : Shared} (h : kasC M A E m Q st s) (i : ∀ a st' s', Q a st' s' → Q' a st' s') : kasC M A E m Q' st s := by
  unfold kasC at h ⊢
  exact wpAny_mono h (fun r s' q => i _ _ _ q) fun _ _ e => e
end
section
variable {M : Model} {A : Around} {E : Value → Shared → Prop}
end
end TSrt
set_option Elab.async false
set_option linter.all false
set_option maxRecDepth 100000
namespace TSrt
open PySem PySem.W PyProof.Rows
section
variable {M : Model} {A : Around} {E : Value → Shared → Prop} {σ : Type}
theorem kasC_ev {β : Type} {f : Nat → β → StateT σ Sem (ForInStep β)} {Q : β → σ → Shared → Prop} (I : Nat → β → σ → Shared → Prop) {b : Nat} (fin : ∀ c st s, I b c st s → Q c st s) :
    ∀ {n a : Nat} {c : β} {st : σ} {s : Shared}, a + n = b → (∀ i c st s, a ≤ i → i < b → I i c st s → kasC M A E (f i c) (fun r st' s' => match r with | .done c' => Q c' st' s' | .yield c' => I (i + 1) c' st' s') st s) → I a c st s → kasC M A E (forIn (List.range' a n) c f) Q st s
  | 0, a, c, st, s, e, _, h => kasC_nil (fin _ _ _ (by have : a = b := by omega
                                                       rw [← this]; exact h))
  | n + 1, a, c, st, s, e, step, h => by
    rw [List.range'_succ]
    refine kasC_cons (kasC_mono (step a c st s (Nat.le_refl _) (by omega) h) fun r st' s' q => ?_)
    cases r with
    | done b' => exact q
    | yield b' => exact kasC_ev I fin (by omega) (fun i c st s h1 h2 h3 => step i c st s (by (clear h2 e; omega)) h2 h3) q
theorem kasC_rg {β : Type} {a b : Nat} {c : β} {f : Nat → β → StateT σ Sem (ForInStep β)} {Q : β → σ → Shared → Prop} {st : σ} {s : Shared} (I : Nat → β → σ → Shared → Prop)
    (step : ∀ i c st s, a ≤ i → i < b → I i c st s → kasC M A E (f i c) (fun r st' s' => match r with | .done c' => Q c' st' s' | .yield c' => I (i + 1) c' st' s') st s)
    (fin : ∀ c st s, I (max a b) c st s → Q c st s) (h : I a c st s) : kasC M A E (forIn [a:b] c f) Q st s := by
  refine kasC_range ?_
  by_cases hab : a ≤ b
  · have e : max a b = b := by omega
    rw [e] at fin
    exact kasC_ev I fin (by (clear e; omega)) step h
  · have e : max a b = a := by omega
    rw [e] at fin
    rw [show b - a = 0 by (clear e; omega)]
    exact kasC_nil (fin _ _ _ h)
end
def ats (xs : Array Keyed) (i : Nat) : Keyed := (xs[i]?).getD (.none, .none)
theorem ats_of {xs ys : Array Keyed} {i j : Nat} (h : xs[i]? = ys[j]?) : ats xs i = ats ys j := by unfold ats; rw [h]
theorem ats_at {xs : Array Keyed} {i : Nat} (h : i < xs.size) : xs[i]? = some (ats xs i) := by
  unfold ats; rw [getElem?_pos xs i h]; rfl
theorem ats_mem {xs : Array Keyed} {i : Nat} (h : i < xs.size) : ats xs i ∈ xs.toList := by
  have e := ats_at h
  rw [← Array.getElem?_toList] at e
  exact List.mem_of_getElem? e
theorem ats_rev {xs : Array Keyed} {i j : Nat} (hj : j ≤ xs.size) (k : Nat) : ats (mirror xs i j ((j - i) / 2)) k = if i ≤ k ∧ k < j then ats xs (i + j - 1 - k) else ats xs k := by
  have e := getElem?_mirror_all (i := i) hj k
  split at e
  · rename_i h; rw [if_pos h]; exact ats_of e
  · rename_i h; rw [if_neg h]; exact ats_of e
structure Sw (c : Keyed → Keyed → Bool) : Prop where
  asym : ∀ {x y}, c x y = true → c y x = false
  tr : ∀ {x y z}, c y x = false → c z y = false → c z x = false
theorem Sw.rf {c : Keyed → Keyed → Bool} (o : Sw c) (x : Keyed) : c x x = false := by
  cases e : c x x with
  | false => rfl
  | true => exact (o.asym e).symm.trans e |>.symm ▸ rfl
theorem Sw.le {c : Keyed → Keyed → Bool} (o : Sw c) {x y z : Keyed} (h : c x y = true) (g : c z y = false) : c x z = true := by
  cases e : c x z with
  | true => rfl
  | false => have := o.tr g e; rw [h] at this; exact this.symm
structure Od (c0 c : Keyed → Keyed → Bool) (ix : Keyed → Nat) : Prop where
  o0 : Sw c0
  o : Sw c
  ag : ∀ {x y}, ix y < ix x → c x y = c0 x y
  wk : ∀ {x y}, c0 x y = true → c x y = true
  eq : ∀ {x y}, c0 x y = false → c0 y x = false → ix x < ix y → c x y = true
theorem Od.of0 {c0 c : Keyed → Keyed → Bool} {ix : Keyed → Nat} (o : Od c0 c ix) {x y : Keyed} (h : c x y = false) : c0 x y = false := by
  cases e : c0 x y with
  | false => rfl
  | true => rw [o.wk e] at h; exact h
def Loc (ix : Keyed → Nat) (xs : Array Keyed) (p q : Nat) : Prop := ∀ j, p ≤ j → j < q → p ≤ ix (ats xs j) ∧ ix (ats xs j) < q
def Raw (ix : Keyed → Nat) (xs : Array Keyed) (q : Nat) : Prop := ∀ j, q ≤ j → j < xs.size → ix (ats xs j) = j
theorem Loc.more {ix : Keyed → Nat} {xs : Array Keyed} {p q q' : Nat} (h : Loc ix xs p q) (r : Raw ix xs q) (h1 : p ≤ q) (h2 : q ≤ q') (h3 : q' ≤ xs.size) : Loc ix xs p q' := fun j z1 z2 => by
  by_cases e : j < q
  · have := h j z1 e; (clear e z2 z1 h3 h1; omega)
  · have := r j (by (clear z2 z1 h3 h2 h1; omega)) (by (clear e z1 h2 h1; omega)); (clear e h3 h2 h1; omega)
theorem Raw.mono {ix : Keyed → Nat} {xs : Array Keyed} {q q' : Nat} (r : Raw ix xs q) (h : q ≤ q') : Raw ix xs q' := fun j z1 z2 => r j (by (clear z2; omega)) z2
def Up (c : Keyed → Keyed → Bool) (xs : Array Keyed) (lo hi : Nat) : Prop := ∀ i j, lo ≤ i → i ≤ j → j < hi → c (ats xs j) (ats xs i) = false
def Dn (c : Keyed → Keyed → Bool) (xs : Array Keyed) (lo hi : Nat) : Prop := ∀ i j, lo ≤ i → i ≤ j → j < hi → c (ats xs i) (ats xs j) = false
def Keep (xs ys : Array Keyed) (lo : Nat) : Prop := ∀ i, i < lo → ats ys i = ats xs i
structure SB (κ : SortKind) (a0 : Array Keyed) (st : SortSt) : Prop where
  pm : (arrOf st).Perm a0
  kd : kindOf st = κ
  fd : failedOf st = none
theorem SB.sz {κ : SortKind} {a0 : Array Keyed} {st : SortSt} (h : SB κ a0 st) : (arrOf st).size = a0.size := h.pm.size_eq
theorem SB.mem {κ : SortKind} {a0 : Array Keyed} {st : SortSt} (h : SB κ a0 st) {i : Nat} (hi : i < a0.size) : ats (arrOf st) i ∈ a0.toList :=
  (Array.perm_iff_toList_perm.mp h.pm).mem_iff.mp (ats_mem (by rw [h.sz]; exact hi))
theorem SB.put {κ : SortKind} {a0 : Array Keyed} {st : SortSt} (h : SB κ a0 st) {xs : Array Keyed} (hp : xs.Perm (arrOf st)) : SB κ a0 (setArr st xs) := ⟨hp.trans h.pm, h.kd, h.fd⟩
section
variable {M : Model} {A : Around} {E : Value → Shared → Prop} {κ : SortKind} {a0 : Array Keyed} {c0 c : Keyed → Keyed → Bool} {ix : Keyed → Nat} {G : Shared → Prop}
theorem Keep.trans {xs ys zs : Array Keyed} {l : Nat} (h : Keep xs ys l) (k : Keep ys zs l) : Keep xs zs l := fun i z => (k i z).trans (h i z)
structure Blk (c0 c : Keyed → Keyed → Bool) (ix : Keyed → Nat) (xs : Array Keyed) (lo p m : Nat) : Prop where
  lp : lo ≤ p
  pm : p < m
  mz : m ≤ xs.size
  dn : Dn c xs lo p
  lc : Loc ix xs lo p
  gt : ∀ i j, lo ≤ i → i < p → p ≤ j → j < m → c0 (ats xs j) (ats xs i) = true
  eq : ∀ i j, p ≤ i → i < m → p ≤ j → j < m → c0 (ats xs i) (ats xs j) = false
  raw : Raw ix xs p
theorem Blk.turn {xs : Array Keyed} {lo p m : Nat} (oo : Od c0 c ix) (h : Blk c0 c ix xs lo p m) : Dn c (mirror xs p m ((m - p) / 2)) lo m ∧ Loc ix (mirror xs p m ((m - p) / 2)) lo m ∧ Raw ix (mirror xs p m ((m - p) / 2)) m := by
  have e := ats_rev (i := p) h.mz
  have lp := h.lp; have pm := h.pm; have mz := h.mz
  refine ⟨fun i j z1 z2 z3 => ?_, fun j z1 z2 => ?_, fun j z1 z2 => ?_⟩
  · rw [e, e]
    by_cases c1 : p ≤ i ∧ i < m
    · rw [if_pos c1, if_pos (by (clear z1 mz pm lp; omega))]
      by_cases q : i = j
      · subst q; exact oo.o.rf _
      · refine oo.o.asym (oo.eq (h.eq _ _ (by (clear q c1 z2 z1 mz pm lp; omega)) (by (clear q z3 z1 mz pm lp; omega)) (by (clear q c1 z1 mz pm lp; omega)) (by (clear q z3 z2 z1 mz pm lp; omega))) (h.eq _ _ (by (clear q c1 z1 mz pm lp; omega)) (by (clear q z3 z2 z1 mz pm lp; omega)) (by (clear q c1 z2 z1 mz pm lp; omega)) (by (clear q z3 z1 mz pm lp; omega))) ?_)
        rw [h.raw _ (by (clear q c1 z2 z1 mz pm lp; omega)) (by (clear q z3 z1 pm lp; omega)), h.raw _ (by (clear q c1 z1 mz pm lp; omega)) (by (clear q z3 z2 z1 pm lp; omega))]; (clear c1 z1 mz pm lp; omega)
    · rw [if_neg c1]
      by_cases c2 : p ≤ j ∧ j < m
      · rw [if_pos c2]
        exact oo.o.asym (oo.wk (h.gt _ _ z1 (by (clear c2 z1 mz pm lp; omega)) (by (clear c2 c1 z2 z1 mz pm lp; omega)) (by (clear c1 z3 z2 z1 mz pm lp; omega))))
      · rw [if_neg c2]; exact h.dn i j z1 z2 (by (clear c1 z2 z1 mz pm lp; omega))
  · rw [e]
    by_cases c1 : p ≤ j ∧ j < m
    · rw [if_pos c1, h.raw _ (by (clear c1 z1 mz pm lp; omega)) (by (clear z2 z1 pm lp; omega))]; (clear z2 z1 mz pm; omega)
    · rw [if_neg c1]; have := h.lc j z1 (by (clear z1 mz pm lp; omega)); (clear c1 z2 z1 mz lp; omega)
  · rw [mirror_size] at z2
    rw [e, if_neg (by (clear z2 mz pm lp; omega))]
    exact h.raw j (by (clear z2 mz lp; omega)) z2
theorem Blk.one {xs : Array Keyed} {lo p m : Nat} (oo : Od c0 c ix) (h : Blk c0 c ix xs lo p m) (e : m = p + 1) : Dn c xs lo m ∧ Loc ix xs lo m ∧ Raw ix xs m := by
  have lp := h.lp; have pm := h.pm; have mz := h.mz
  subst e
  refine ⟨fun i j z1 z2 z3 => ?_, h.lc.more h.raw lp (by (clear mz pm lp; omega)) mz, h.raw.mono (by (clear mz pm lp; omega))⟩
  by_cases q : j = p
  · subst q
    by_cases q2 : i = j
    · subst q2; exact oo.o.rf _
    · exact oo.o.asym (oo.wk (h.gt i j z1 (by (clear z3 mz pm lp z1; omega)) (by (clear q2 z3 mz pm lp z2 z1; omega)) (by (clear q2 z3 mz pm lp z2 z1; omega))))
  · exact h.dn i j z1 z2 (by (clear z2 z1 mz pm lp; omega))
theorem Blk.new {xs : Array Keyed} {lo m : Nat} (oo : Od c0 c ix) (lm : lo < m) (mz : m < xs.size) (dn : Dn c xs lo m) (lc : Loc ix xs lo m) (raw : Raw ix xs m) (g : c0 (ats xs m) (ats xs (m - 1)) = true) : Blk c0 c ix xs lo m (m + 1) :=
  ⟨by (clear mz; omega), by (clear mz lm; omega), mz, dn, lc, fun i j z1 z2 z3 z4 => by
    obtain rfl : j = m := by (clear z2 z1 mz lm; omega)
    exact oo.o0.le g (oo.of0 (dn i (j - 1) z1 (by (clear z4 z3 mz lm z1; omega)) (by (clear z4 z3 z2 mz z1; omega)))), fun i j z1 z2 z3 z4 => by
    obtain rfl : i = j := by (clear mz lm; omega)
    exact oo.o0.rf _, raw⟩
end
end TSrt
set_option Elab.async false
set_option linter.all false
set_option maxRecDepth 100000
namespace TSrt
open PySem PySem.W PyProof.Rows
section pure
variable {c : Keyed → Keyed → Bool}
def Asc (c : Keyed → Keyed → Bool) (l : List Keyed) : Prop := l.Pairwise fun x y => c y x = false
theorem Asc.app {l m : List Keyed} (h1 : Asc c l) (h2 : Asc c m) (h : ∀ x ∈ l, ∀ y ∈ m, c y x = false) : Asc c (l ++ m) := List.pairwise_append.mpr ⟨h1, h2, h⟩
theorem Asc.split {l : List Keyed} (h : Asc c l) (k : Nat) : Asc c (l.take k) ∧ Asc c (l.drop k) ∧ ∀ x ∈ l.take k, ∀ y ∈ l.drop k, c y x = false := by
  have h' := h
  rw [← List.take_append_drop k l] at h'
  exact List.pairwise_append.mp h'
theorem ats_ge {xs : Array Keyed} {i : Nat} : ats xs i = (xs.toList[i]?).getD (.none, .none) := by unfold ats; rw [Array.getElem?_toList]
theorem Asc.at {xs : Array Keyed} (h : Asc c xs.toList) (o : Sw c) {i j : Nat} (hij : i ≤ j) (hj : j < xs.size) : c (ats xs j) (ats xs i) = false := by
  by_cases e : i = j
  · subst e; exact o.rf _
  · have hj' : j < xs.toList.length := by simpa using hj
    have hi' : i < xs.toList.length := by omega
    have := List.pairwise_iff_getElem.mp h i j hi' hj' (by omega)
    rw [ats_ge, ats_ge, List.getElem?_eq_getElem hj', List.getElem?_eq_getElem hi']
    exact this
theorem dropped {xs : Array Keyed} {i : Nat} (h : i < xs.size) : xs.toList.drop i = ats xs i :: xs.toList.drop (i + 1) := by
  have h' : i < xs.toList.length := by simpa using h
  rw [List.drop_eq_getElem_cons h', ats_ge, List.getElem?_eq_getElem h']; rfl
theorem mem_seg {xs : Array Keyed} {i k : Nat} {y : Keyed} (h : y ∈ (xs.toList.drop i).take k) : ∃ t, t < k ∧ i + t < xs.size ∧ y = ats xs (i + t) := by
  obtain ⟨t, ht, rfl⟩ := List.mem_iff_getElem.mp h
  have e := ht
  rw [List.length_take, List.length_drop] at e
  have e2 : i + t < xs.size := by rw [Array.length_toList] at e; omega
  refine ⟨t, by omega, e2, ?_⟩
  rw [List.getElem_take, List.getElem_drop, ats_ge, List.getElem?_eq_getElem]; rfl
structure ML (c : Keyed → Keyed → Bool) (a b : Array Keyed) (out : Array Keyed) (ia ib : Nat) : Prop where
  so : Asc c out.toList
  pm : out.toList.Perm (a.toList.take ia ++ b.toList.take ib)
  oa : ∀ x ∈ out.toList, ∀ y ∈ a.toList.drop ia, c y x = false
  ob : ∀ x ∈ out.toList, ∀ y ∈ b.toList.drop ib, c y x = false
theorem ML.size {a b out : Array Keyed} {ia ib : Nat} (h : ML c a b out ia ib) (ha : ia ≤ a.size) (hb : ib ≤ b.size) : out.size = ia + ib := by
  have := h.pm.length_eq
  simp only [List.length_append, List.length_take, Array.length_toList] at this
  omega
theorem ML.add {a b out : Array Keyed} {ia ib k : Nat} (o : Sw c) (sa : Asc c a.toList) (sb : Asc c b.toList) (h : ML c a b out ia ib) (hb : ib < b.size) (q : ∀ t, t < k → ia + t < a.size → c (ats b ib) (ats a (ia + t)) = false) :
    ML c a b (out ++ a.extract ia (ia + k)) (ia + k) ib := by
  have e : (out ++ a.extract ia (ia + k)).toList = out.toList ++ (a.toList.drop ia).take k := by
    rw [Array.toList_append, Array.toList_extract, List.extract_eq_drop_take]
    congr 2; omega
  have hd : a.toList.drop (ia + k) = (a.toList.drop ia).drop k := by rw [List.drop_drop]
  obtain ⟨-, sd, -⟩ := sa.split ia
  obtain ⟨s1, -, s2⟩ := Asc.split sd k
  constructor
  · rw [e]; exact h.so.app s1 fun x hx y hy => h.oa x hx y (List.mem_of_mem_take hy)
  · rw [e, List.take_add]
    refine (h.pm.append_right _).trans ?_
    rw [List.append_assoc, List.append_assoc]
    exact List.Perm.append_left _ List.perm_append_comm
  · rw [e, hd]
    intro x hx y hy
    rcases List.mem_append.mp hx with hx | hx
    · exact h.oa x hx y (List.mem_of_mem_drop hy)
    · exact s2 x hx y hy
  · rw [e]
    intro x hx y hy
    rcases List.mem_append.mp hx with hx | hx
    · exact h.ob x hx y hy
    · obtain ⟨t, t1, t2, rfl⟩ := mem_seg hx
      have z := q t t1 t2
      rw [dropped hb] at hy
      rcases List.mem_cons.mp hy with rfl | hy
      · exact z
      · obtain ⟨-, s4, -⟩ := sb.split ib
        rw [dropped hb] at s4
        exact o.tr z ((List.pairwise_cons.mp s4).1 y hy)
theorem ML.push {a b out : Array Keyed} {ia ib : Nat} (o : Sw c) (sa : Asc c a.toList) (sb : Asc c b.toList) (h : ML c a b out ia ib) (ha : ia < a.size) (hb : ib < b.size) (q : c (ats b ib) (ats a ia) = false) :
    ML c a b (out.push (ats a ia)) (ia + 1) ib := by
  have := h.add (k := 1) o sa sb hb fun t t1 t2 => by
    obtain rfl : t = 0 := by omega
    exact q
  have e : out ++ a.extract ia (ia + 1) = out.push (ats a ia) := by
    apply Array.toList_inj.mp
    rw [Array.toList_append, Array.toList_extract, List.extract_eq_drop_take, Array.toList_push, dropped ha]
    rw [show ia + 1 - ia = 1 by omega]; rfl
  rwa [e] at this
def Merged (c : Keyed → Keyed → Bool) (a b r : Array Keyed) : Prop := Asc c r.toList ∧ r.toList.Perm (a.toList ++ b.toList)
theorem ML.fin {a b out : Array Keyed} {ia ib : Nat} (sa : Asc c a.toList) (sb : Asc c b.toList) (h : ML c a b out ia ib) (q : ∀ x ∈ a.toList.drop ia, ∀ y ∈ b.toList.drop ib, c y x = false) : Merged c a b (out ++ a.extract ia a.size ++ b.extract ib b.size) := by
  have e : (out ++ a.extract ia a.size ++ b.extract ib b.size).toList = out.toList ++ a.toList.drop ia ++ b.toList.drop ib := by
    rw [Array.toList_append, Array.toList_append, Array.toList_extract, Array.toList_extract, List.extract_eq_drop_take, List.extract_eq_drop_take, List.take_of_length_le (by simp), List.take_of_length_le (by simp)]
  refine ⟨?_, ?_⟩
  · rw [e]
    refine (h.so.app (sa.split ia).2.1 h.oa).app (sb.split ib).2.1 fun x hx y hy => ?_
    rcases List.mem_append.mp hx with hx | hx
    · exact h.ob x hx y hy
    · exact q x hx y hy
  · rw [e]
    have p1 := (h.pm.append_right (a.toList.drop ia ++ b.toList.drop ib))
    rw [← List.append_assoc] at p1
    refine p1.trans ?_
    conv => rhs; rw [← List.take_append_drop ia a.toList, ← List.take_append_drop ib b.toList]
    rw [List.append_assoc, List.append_assoc]
    refine List.Perm.append_left _ ?_
    rw [← List.append_assoc, ← List.append_assoc]
    exact List.perm_append_comm.append_right _
end pure
end TSrt
set_option Elab.async false
set_option linter.all false
set_option maxRecDepth 100000
namespace TSrt
open PySem PySem.W PyProof.Rows
def mergeLo' : Array Keyed → Array Keyed → StateT SortSt Sem (Array Keyed) := sortPriv% PySem.Builtin.mergeLo
structure Bd {α : Type} (β : Type) (m : StateT SortSt Sem α) where
  x : StateT SortSt Sem β
  f : β → StateT SortSt Sem α
  h : m = x >>= f
structure It {α : Type} (m : StateT SortSt Sem α) where
  p : Prop
  d : Decidable p
  t : StateT SortSt Sem α
  e : StateT SortSt Sem α
  h : m = @ite _ p d t e
structure Lp {β : Type} (m : StateT SortSt Sem β) where
  lo : Nat
  hi : Nat
  c : β
  f : Nat → β → StateT SortSt Sem (ForInStep β)
  h : m = forIn [lo:hi] c f
section
abbrev U0 := Array Keyed × Nat × Nat × Nat
abbrev U1 := Array Keyed × Nat × Nat × Nat × Nat
abbrev U2 := Array Keyed × Nat × Nat × Nat × Nat × Nat
abbrev T0 := Option (Array Keyed) × U0
abbrev T1 := Option (Array Keyed) × U1
abbrev T2 := Option (Array Keyed) × U2
variable (a b : Array Keyed)
noncomputable def lo1 : Bd Unit (mergeLo' a b) := ⟨_, _, rfl⟩
noncomputable def lo2 : Bd Keyed ((lo1 a b).f ()) := ⟨_, _, rfl⟩
noncomputable def lo3 (v : Keyed) : It ((lo2 a b).f v) := ⟨_, _, _, _, rfl⟩
noncomputable def lo4 (v : Keyed) : It (lo3 a b v).e := ⟨_, _, _, _, rfl⟩
noncomputable def lo5 (v : Keyed) : Bd SortSt (lo4 a b v).e := ⟨_, _, rfl⟩
noncomputable def lo6 (v : Keyed) (st : SortSt) : Bd T0 ((lo5 a b v).f st) := ⟨_, _, rfl⟩
noncomputable def lo7 (v : Keyed) (st : SortSt) : Lp (lo6 a b v st).x := ⟨_, _, _, _, rfl⟩
noncomputable def loO : {f : Nat → T0 → StateT SortSt Sem (ForInStep T0) // ∀ v st, (lo7 a b v st).f = f} := ⟨_, fun _ _ => rfl⟩
section
variable (j : Nat) (t : T0)
noncomputable def oA : Bd T1 ((loO a b).1 j t) := ⟨_, _, rfl⟩
noncomputable def oB : Lp (oA a b j t).x := ⟨_, _, _, _, rfl⟩
noncomputable def oC (d : U1) : Bd Unit ((oA a b j t).f (none, d)) := ⟨_, _, rfl⟩
noncomputable def oD (d : U1) : Bd T2 ((oC a b j t d).f ()) := ⟨_, _, rfl⟩
noncomputable def oE (d : U1) : Lp (oD a b j t d).x := ⟨_, _, _, _, rfl⟩
end
noncomputable def loB1 (t : T0) : {f : Nat → T1 → StateT SortSt Sem (ForInStep T1) // ∀ j, (oB a b j t).f = f} := ⟨_, fun _ => rfl⟩
noncomputable def loB2 : {f : Nat → T2 → StateT SortSt Sem (ForInStep T2) // ∀ j t d, (oE a b j t d).f = f} := ⟨_, fun _ _ _ => rfl⟩
section
variable (t0 : T0) (i : Nat) (t : T1)
noncomputable def c1 : Bd Keyed ((loB1 a b t0).1 i t) := ⟨_, _, rfl⟩
noncomputable def c2 (x : Keyed) : Bd Keyed ((c1 a b t0 i t).f x) := ⟨_, _, rfl⟩
noncomputable def c3 (x y : Keyed) : Bd (Option Bool) ((c2 a b t0 i t x).f y) := ⟨_, _, rfl⟩
noncomputable def c4 (x y : Keyed) (w : Bool) : It ((c3 a b t0 i t x y).f (some w)) := ⟨_, _, _, _, rfl⟩
noncomputable def c5 (x y : Keyed) (w : Bool) : Bd Keyed (c4 a b t0 i t x y w).t := ⟨_, _, rfl⟩
noncomputable def c6 (x y : Keyed) (w : Bool) (z : Keyed) : It ((c5 a b t0 i t x y w).f z) := ⟨_, _, _, _, rfl⟩
noncomputable def c7 (x y : Keyed) (w : Bool) (z : Keyed) : It (c6 a b t0 i t x y w z).e := ⟨_, _, _, _, rfl⟩
noncomputable def c8 (x y : Keyed) (w : Bool) : Bd Keyed (c4 a b t0 i t x y w).e := ⟨_, _, rfl⟩
noncomputable def c9 (x y : Keyed) (w : Bool) (z : Keyed) : It ((c8 a b t0 i t x y w).f z) := ⟨_, _, _, _, rfl⟩
end
section
variable (i : Nat) (r : Option (Array Keyed)) (out : Array Keyed) (ia ib ac bc mg : Nat)
noncomputable def g0 : It ((loB2 a b).1 i (r, out, ia, ib, mg, ac, bc)) := ⟨_, _, _, _, rfl⟩
noncomputable def gK : {K : Nat → StateT SortSt Sem (ForInStep T2) // ∀ mg, (g0 a b i r out ia ib ac bc mg).e = K mg} := ⟨_, fun _ => rfl⟩
noncomputable def g1 : Bd Unit ((gK a b i r out ia ib ac bc).1 mg) := ⟨_, _, rfl⟩
noncomputable def g2 : Bd Keyed ((g1 a b i r out ia ib ac bc mg).f ()) := ⟨_, _, rfl⟩
noncomputable def g3 (x : Keyed) : Bd (Option Nat) ((g2 a b i r out ia ib ac bc mg).f x) := ⟨_, _, rfl⟩
noncomputable def g4 (x : Keyed) (k : Nat) : It ((g3 a b i r out ia ib ac bc mg x).f (some k)) := ⟨_, _, _, _, rfl⟩
end
section
variable (i : Nat) (r : Option (Array Keyed)) (ib ac bc mg : Nat) (x : Keyed) (k : Nat)
noncomputable def J1 : {K : Array Keyed → Nat → StateT SortSt Sem (ForInStep T2) // ∀ out ia, (g4 a b i r out ia ib ac bc mg x k).e = K out ia} := ⟨_, fun _ _ => rfl⟩
noncomputable def h1 (out : Array Keyed) (ia : Nat) : Bd Keyed ((J1 a b i r ib ac bc mg x k).1 out ia) := ⟨_, _, rfl⟩
noncomputable def h2 (out : Array Keyed) (ia : Nat) (y : Keyed) : It ((h1 a b i r ib ac bc mg x k out ia).f y) := ⟨_, _, _, _, rfl⟩
noncomputable def K3 (ia : Nat) : {K : Array Keyed → Nat → StateT SortSt Sem (ForInStep T2) // ∀ out y, (h2 a b i r ib ac bc mg x k out ia y).e = K (out.push y) (ib + 1)} := by
  refine ⟨?K, ?_⟩
  rotate_left
  · intro out y
    dsimp only [h2]
    generalize out.push y = o
    generalize ib + 1 = j
    rfl
section
variable (ia : Nat) (o : Array Keyed) (j : Nat)
noncomputable def k2 : Bd Keyed ((K3 a b i r ib ac bc mg x k ia).1 o j) := ⟨_, _, rfl⟩
noncomputable def k3 (z : Keyed) : Bd (Option Nat) ((k2 a b i r ib ac bc mg x k ia o j).f z) := ⟨_, _, rfl⟩
noncomputable def k4 (z : Keyed) (l : Nat) : It ((k3 a b i r ib ac bc mg x k ia o j z).f (some l)) := ⟨_, _, _, _, rfl⟩
noncomputable def k5 (z : Keyed) (l : Nat) : It (k4 a b i r ib ac bc mg x k ia o j z l).t := ⟨_, _, _, _, rfl⟩
end
noncomputable def K2 (ia : Nat) (z : Keyed) (l : Nat) : {K : Array Keyed → Nat → StateT SortSt Sem (ForInStep T2) // ∀ o j, (k4 a b i r ib ac bc mg x k ia o j z l).e = K o j} := ⟨_, fun _ _ => rfl⟩
noncomputable def q1 (ia : Nat) (z : Keyed) (l : Nat) (o : Array Keyed) (j : Nat) : Bd Keyed ((K2 a b i r ib ac bc mg x k ia z l).1 o j) := ⟨_, _, rfl⟩
noncomputable def q2 (ia : Nat) (z : Keyed) (l : Nat) (o : Array Keyed) (j : Nat) (w : Keyed) : It ((q1 a b i r ib ac bc mg x k ia z l o j).f w) := ⟨_, _, _, _, rfl⟩
noncomputable def q3 (ia : Nat) (z : Keyed) (l : Nat) (o : Array Keyed) (j : Nat) (w : Keyed) : It (q2 a b i r ib ac bc mg x k ia z l o j w).e := ⟨_, _, _, _, rfl⟩
end
end
def mergeHi' : Array Keyed → Array Keyed → StateT SortSt Sem (Array Keyed) := sortPriv% PySem.Builtin.mergeHi
structure Gs (st st' : SortSt) : Prop where
  kd : kindOf st' = kindOf st
  ar : arrOf st' = arrOf st
  pe : pendingOf st' = pendingOf st
  fd : failedOf st' = failedOf st
theorem Gs.rf (st : SortSt) : Gs st st := ⟨rfl, rfl, rfl, rfl⟩
theorem Up.of {c : Keyed → Keyed → Bool} {xs : Array Keyed} (o : Sw c) (h : Asc c xs.toList) {lo hi : Nat} (hz : hi ≤ xs.size) : Up c xs lo hi := fun i j _ h2 h3 => h.at o h2 (by (clear h2; omega))
section
variable {M : Model} {A : Around} {E : Value → Shared → Prop} {κ : SortKind} {a0 : Array Keyed} {c0 c : Keyed → Keyed → Bool} {ix : Keyed → Nat} {G : Shared → Prop}
theorem Bd.go {α β : Type} {m : StateT SortSt Sem α} (d : Bd β m) {Q : α → SortSt → Shared → Prop} {st : SortSt} {s : Shared} (h : kasC M A E d.x (fun v st' s' => kasC M A E (d.f v) Q st' s') st s) : kasC M A E m Q st s := by
  rw [d.h]; exact kasC_bind h
theorem It.go {α : Type} {m : StateT SortSt Sem α} (d : It m) {Q : α → SortSt → Shared → Prop} {st : SortSt} {s : Shared} (h1 : d.p → kasC M A E d.t Q st s) (h2 : ¬ d.p → kasC M A E d.e Q st s) : kasC M A E m Q st s := by
  rw [d.h]; split
  · rename_i z; exact h1 z
  · rename_i z; exact h2 z
theorem Lp.go {β : Type} {m : StateT SortSt Sem β} (d : Lp m) {Q : β → SortSt → Shared → Prop} {st : SortSt} {s : Shared} (I : Nat → β → SortSt → Shared → Prop)
    (step : ∀ i c st s, i < d.hi → I i c st s → kasC M A E (d.f i c) (fun r st' s' => match r with | .done c' => Q c' st' s' | .yield c' => I (i + 1) c' st' s') st s)
    (fin : ∀ c st s, I (max d.lo d.hi) c st s → Q c st s) (h : I d.lo d.c st s) : kasC M A E m Q st s := by
  rw [d.h]; exact kasC_rg I (fun i c st s _ h2 h3 => step i c st s h2 h3) fin h
structure LI (c : Keyed → Keyed → Bool) (a b : Array Keyed) (k : Nat) (o : Array Keyed) (ia ib : Nat) : Prop where
  ml : ML c a b o ia ib
  ha : ia + 1 < a.size
  hb : ib < b.size
  sz : k ≤ o.size
theorem LI.a1 {a b o : Array Keyed} {k ia ib : Nat} (x : LI c a b k o ia ib) : ia < a.size := Nat.lt_of_succ_lt x.ha
theorem LI.eq {a b o : Array Keyed} {k ia ib : Nat} (x : LI c a b k o ia ib) : o.size = ia + ib := x.ml.size (Nat.le_of_lt x.a1) (Nat.le_of_lt x.hb)
section
variable {a b : Array Keyed} {st : SortSt} {s : Shared}
theorem LI.le {o : Array Keyed} {k k' ia ib : Nat} (x : LI c a b k o ia ib) (h : k' ≤ k) : LI c a b k' o ia ib := ⟨x.ml, x.ha, x.hb, Nat.le_trans h x.sz⟩
theorem Gs.tr {st st1 st2 : SortSt} (x : Gs st st1) (y : Gs st1 st2) : Gs st st2 := ⟨y.kd.trans x.kd, y.ar.trans x.ar, y.pe.trans x.pe, y.fd.trans x.fd⟩
end
end
end TSrt
set_option Elab.async false
set_option linter.all false
set_option maxRecDepth 100000
namespace TSrt
open PySem PySem.W PyProof.Rows
section pure
variable {c : Keyed → Keyed → Bool}
structure MH (c : Keyed → Keyed → Bool) (a b : Array Keyed) (out : Array Keyed) (na nb : Nat) : Prop where
  so : out.toList.Pairwise fun x y => c x y = false
  pm : out.toList.Perm (a.toList.drop na ++ b.toList.drop nb)
  oa : ∀ x ∈ out.toList, ∀ y ∈ a.toList.take na, c x y = false
  ob : ∀ x ∈ out.toList, ∀ y ∈ b.toList.take nb, c x y = false
theorem MH.size {a b out : Array Keyed} {ia ib : Nat} (h : MH c a b out ia ib) (ha : ia ≤ a.size) (hb : ib ≤ b.size) : out.size = a.size - ia + (b.size - ib) := by
  have := h.pm.length_eq
  simp only [List.length_append, List.length_drop, Array.length_toList] at this
  omega
theorem mem_front {xs : Array Keyed} {k : Nat} {y : Keyed} (h : y ∈ xs.toList.take k) : ∃ t, t < k ∧ t < xs.size ∧ y = ats xs t := by
  have : y ∈ (xs.toList.drop 0).take k := h
  obtain ⟨t, t1, t2, e⟩ := mem_seg this
  rw [Nat.zero_add] at t2 e
  exact ⟨t, t1, t2, e⟩
theorem MH.add {a b out : Array Keyed} {na nb at_ : Nat} (o : Sw c) (sa : Asc c a.toList) (sb : Asc c b.toList) (h : MH c a b out na nb) (hat : at_ ≤ na) (hna : na ≤ a.size) (hb : 0 < nb) (hnb : nb ≤ b.size) (q : ∀ t, at_ ≤ t → t < na → c (ats a t) (ats b (nb - 1)) = false) :
    MH c a b (out ++ (a.extract at_ na).reverse) at_ nb := by
  have e : (out ++ (a.extract at_ na).reverse).toList = out.toList ++ ((a.toList.drop at_).take (na - at_)).reverse := by
    rw [Array.toList_append, Array.toList_reverse, Array.toList_extract, List.extract_eq_drop_take]
  have hd : a.toList.take na = a.toList.take at_ ++ (a.toList.drop at_).take (na - at_) := by
    conv => lhs; rw [show na = at_ + (na - at_) by omega, List.take_add]
  have hd2 : a.toList.drop at_ = (a.toList.drop at_).take (na - at_) ++ a.toList.drop na := by
    conv => lhs; rw [← List.take_append_drop (na - at_) (a.toList.drop at_)]
    rw [List.drop_drop, show at_ + (na - at_) = na by omega]
  have sd := (sa.split na).1
  rw [hd] at sd
  obtain ⟨-, s1, s2⟩ := List.pairwise_append.mp sd
  have hin : ∀ y, y ∈ (a.toList.drop at_).take (na - at_) → y ∈ a.toList.take na := fun y hy => by rw [hd]; exact List.mem_append_right _ hy
  constructor
  · rw [e]
    refine List.pairwise_append.mpr ⟨h.so, ?_, fun x hx y hy => h.oa x hx y (hin y (List.mem_reverse.mp hy))⟩
    rw [List.pairwise_reverse]; exact s1
  · rw [e]
    have key : ∀ (u x y z : List Keyed), z.Perm (x ++ y) → (z ++ u.reverse).Perm (u ++ x ++ y) := fun u x y z p => by
      refine ((p.append (List.reverse_perm u))).trans ?_
      rw [List.append_assoc u]
      exact List.perm_append_comm
    have p := key ((a.toList.drop at_).take (na - at_)) _ _ _ h.pm
    rw [← hd2] at p
    exact p
  · rw [e]
    intro x hx y hy
    rcases List.mem_append.mp hx with hx | hx
    · exact h.oa x hx y (by rw [hd]; exact List.mem_append_left _ hy)
    · exact s2 y hy x (List.mem_reverse.mp hx)
  · rw [e]
    intro x hx y hy
    rcases List.mem_append.mp hx with hx | hx
    · exact h.ob x hx y hy
    · obtain ⟨t, t1, t2, rfl⟩ := mem_seg (List.mem_reverse.mp hx)
      obtain ⟨u, u1, u2, rfl⟩ := mem_front hy
      exact o.tr (sb.at o (show u ≤ nb - 1 by omega) (by omega)) (q (at_ + t) (by omega) (by omega))
theorem MH.push {a b out : Array Keyed} {na nb : Nat} (o : Sw c) (sa : Asc c a.toList) (sb : Asc c b.toList) (h : MH c a b out na nb) (h0 : 0 < na) (hna : na ≤ a.size) (hb : 0 < nb) (hnb : nb ≤ b.size) (q : c (ats a (na - 1)) (ats b (nb - 1)) = false) :
    MH c a b (out.push (ats a (na - 1))) (na - 1) nb := by
  have := h.add (at_ := na - 1) o sa sb (by omega) hna hb hnb fun t t1 t2 => by
    obtain rfl : t = na - 1 := by omega
    exact q
  have e : out ++ (a.extract (na - 1) na).reverse = out.push (ats a (na - 1)) := by
    apply Array.toList_inj.mp
    rw [Array.toList_append, Array.toList_reverse, Array.toList_extract, List.extract_eq_drop_take, Array.toList_push, dropped (by omega)]
    rw [show na - (na - 1) = 1 by omega]; rfl
  rwa [e] at this
theorem MH.fin {a b out : Array Keyed} {na nb : Nat} (sa : Asc c a.toList) (sb : Asc c b.toList) (h : MH c a b out na nb) (q : ∀ x ∈ a.toList.take na, ∀ y ∈ b.toList.take nb, c y x = false) : Merged c a b (a.extract 0 na ++ b.extract 0 nb ++ out.reverse) := by
  have e : (a.extract 0 na ++ b.extract 0 nb ++ out.reverse).toList = a.toList.take na ++ b.toList.take nb ++ out.toList.reverse := by
    rw [Array.toList_append, Array.toList_append, Array.toList_reverse, Array.toList_extract, Array.toList_extract, List.extract_eq_drop_take, List.extract_eq_drop_take]; rfl
  refine ⟨?_, ?_⟩
  · rw [e]
    refine ((sa.split na).1.app (sb.split nb).1 q).app (by unfold Asc; rw [List.pairwise_reverse]; exact h.so) fun x hx y hy => ?_
    have hy := List.mem_reverse.mp hy
    rcases List.mem_append.mp hx with hx | hx
    · exact h.oa y hy x hx
    · exact h.ob y hy x hx
  · rw [e]
    refine (List.Perm.append_left _ ((List.reverse_perm _).trans h.pm)).trans ?_
    conv => rhs; rw [← List.take_append_drop na a.toList, ← List.take_append_drop nb b.toList]
    rw [List.append_assoc, List.append_assoc]
    refine List.Perm.append_left _ ?_
    rw [← List.append_assoc, ← List.append_assoc]
    exact List.perm_append_comm.append_right _
end pure
abbrev V0 := Nat × Nat × Array Keyed × Nat
abbrev V1 := Nat × Nat × Array Keyed × Nat × Nat
abbrev V2 := Nat × Nat × Array Keyed × Nat × Nat × Nat
abbrev W0 := Option (Array Keyed) × V0
abbrev W1 := Option (Array Keyed) × V1
abbrev W2 := Option (Array Keyed) × V2
section
variable (a b : Array Keyed)
noncomputable def hi1 : Bd Unit (mergeHi' a b) := ⟨_, _, rfl⟩
noncomputable def hi2 : Bd Keyed ((hi1 a b).f ()) := ⟨_, _, rfl⟩
noncomputable def hi3 (v : Keyed) : It ((hi2 a b).f v) := ⟨_, _, _, _, rfl⟩
noncomputable def hi4 (v : Keyed) : It (hi3 a b v).e := ⟨_, _, _, _, rfl⟩
noncomputable def hi5 (v : Keyed) : Bd SortSt (hi4 a b v).e := ⟨_, _, rfl⟩
noncomputable def hi6 (v : Keyed) (st : SortSt) : Bd W0 ((hi5 a b v).f st) := ⟨_, _, rfl⟩
noncomputable def hi7 (v : Keyed) (st : SortSt) : Lp (hi6 a b v st).x := ⟨_, _, _, _, rfl⟩
noncomputable def hiO : {f : Nat → W0 → StateT SortSt Sem (ForInStep W0) // ∀ v st, (hi7 a b v st).f = f} := ⟨_, fun _ _ => rfl⟩
section
variable (j : Nat) (t : W0)
noncomputable def pA : Bd W1 ((hiO a b).1 j t) := ⟨_, _, rfl⟩
noncomputable def pB : Lp (pA a b j t).x := ⟨_, _, _, _, rfl⟩
noncomputable def pC (d : V1) : Bd Unit ((pA a b j t).f (none, d)) := ⟨_, _, rfl⟩
noncomputable def pD (d : V1) : Bd W2 ((pC a b j t d).f ()) := ⟨_, _, rfl⟩
noncomputable def pE (d : V1) : Lp (pD a b j t d).x := ⟨_, _, _, _, rfl⟩
end
noncomputable def hiB1 (t : W0) : {f : Nat → W1 → StateT SortSt Sem (ForInStep W1) // ∀ j, (pB a b j t).f = f} := ⟨_, fun _ => rfl⟩
noncomputable def hiB2 : {f : Nat → W2 → StateT SortSt Sem (ForInStep W2) // ∀ j t d, (pE a b j t d).f = f} := ⟨_, fun _ _ _ => rfl⟩
section
variable (t0 : W0) (i : Nat) (t : W1)
noncomputable def d1 : Bd Keyed ((hiB1 a b t0).1 i t) := ⟨_, _, rfl⟩
noncomputable def d2 (x : Keyed) : Bd Keyed ((d1 a b t0 i t).f x) := ⟨_, _, rfl⟩
noncomputable def d3 (x y : Keyed) : Bd (Option Bool) ((d2 a b t0 i t x).f y) := ⟨_, _, rfl⟩
noncomputable def d4 (x y : Keyed) (w : Bool) : It ((d3 a b t0 i t x y).f (some w)) := ⟨_, _, _, _, rfl⟩
noncomputable def d5 (x y : Keyed) (w : Bool) : Bd Keyed (d4 a b t0 i t x y w).t := ⟨_, _, rfl⟩
end
section
variable (i : Nat) (r : Option (Array Keyed)) (na nb : Nat) (out : Array Keyed) (ac bc mg : Nat)
noncomputable def f0 : It ((hiB2 a b).1 i (r, na, nb, out, mg, ac, bc)) := ⟨_, _, _, _, rfl⟩
noncomputable def fK : {K : Nat → StateT SortSt Sem (ForInStep W2) // ∀ mg, (f0 a b i r na nb out ac bc mg).e = K mg} := ⟨_, fun _ => rfl⟩
noncomputable def f1 : Bd Unit ((fK a b i r na nb out ac bc).1 mg) := ⟨_, _, rfl⟩
noncomputable def f2 : Bd Keyed ((f1 a b i r na nb out ac bc mg).f ()) := ⟨_, _, rfl⟩
noncomputable def f3 (x : Keyed) : Bd (Option Nat) ((f2 a b i r na nb out ac bc mg).f x) := ⟨_, _, rfl⟩
noncomputable def f4 (x : Keyed) (k : Nat) : It ((f3 a b i r na nb out ac bc mg x).f (some k)) := ⟨_, _, _, _, rfl⟩
noncomputable def f5 (x : Keyed) (k : Nat) : It (f4 a b i r na nb out ac bc mg x k).t := ⟨_, _, _, _, rfl⟩
end
section
variable (i : Nat) (r : Option (Array Keyed)) (nb ac bc mg : Nat) (x : Keyed) (k : Nat)
noncomputable def JA : {K : Nat → Nat → Array Keyed → StateT SortSt Sem (ForInStep W2) // ∀ na out, (f4 a b i r na nb out ac bc mg x k).e = K (na - k) na out} := by
  refine ⟨?K, ?_⟩
  rotate_left
  · intro na out
    dsimp only [f4]
    generalize na - k = q
    rfl
variable (q : Nat)
noncomputable def e1 (na : Nat) (out : Array Keyed) : Bd Keyed ((JA a b i r nb ac bc mg x k).1 q na out) := ⟨_, _, rfl⟩
noncomputable def e2 (na : Nat) (out : Array Keyed) (y : Keyed) : It ((e1 a b i r nb ac bc mg x k q na out).f y) := ⟨_, _, _, _, rfl⟩
noncomputable def KA (na : Nat) : {K : Nat → Array Keyed → StateT SortSt Sem (ForInStep W2) // ∀ out y, (e2 a b i r nb ac bc mg x k q na out y).e = K (nb - 1) (out.push y)} := by
  refine ⟨?K, ?_⟩
  rotate_left
  · intro out y
    dsimp only [e2]
    generalize out.push y = o
    generalize nb - 1 = j
    rfl
section
variable (na : Nat) (j : Nat) (o : Array Keyed)
noncomputable def m2 : Bd Keyed ((KA a b i r nb ac bc mg x k q na).1 j o) := ⟨_, _, rfl⟩
noncomputable def m3 (z : Keyed) : Bd (Option Nat) ((m2 a b i r nb ac bc mg x k q na j o).f z) := ⟨_, _, rfl⟩
noncomputable def m4 (z : Keyed) (l : Nat) : It ((m3 a b i r nb ac bc mg x k q na j o z).f (some l)) := ⟨_, _, _, _, rfl⟩
end
noncomputable def KB (na : Nat) (z : Keyed) (l : Nat) : {K : Nat → Nat → Array Keyed → StateT SortSt Sem (ForInStep W2) // ∀ j o, (m4 a b i r nb ac bc mg x k q na j o z l).e = K (j - l) j o} := by
  refine ⟨?K, ?_⟩
  rotate_left
  · intro j o
    dsimp only [m4]
    generalize j - l = v
    rfl
variable (v : Nat)
noncomputable def n1 (na : Nat) (z : Keyed) (l : Nat) (j : Nat) (o : Array Keyed) : Bd Keyed ((KB a b i r nb ac bc mg x k q na z l).1 v j o) := ⟨_, _, rfl⟩
noncomputable def n2 (na : Nat) (z : Keyed) (l : Nat) (j : Nat) (o : Array Keyed) (w : Keyed) : It ((n1 a b i r nb ac bc mg x k q v na z l j o).f w) := ⟨_, _, _, _, rfl⟩
noncomputable def n3 (na : Nat) (z : Keyed) (l : Nat) (j : Nat) (o : Array Keyed) (w : Keyed) : It (n2 a b i r nb ac bc mg x k q v na z l j o w).e := ⟨_, _, _, _, rfl⟩
end
end
section
variable {M : Model} {A : Around} {E : Value → Shared → Prop} {κ : SortKind} {a0 : Array Keyed} {c0 c : Keyed → Keyed → Bool} {ix : Keyed → Nat} {G : Shared → Prop} {a b : Array Keyed} {st : SortSt} {s : Shared}
structure HI (c : Keyed → Keyed → Bool) (a b : Array Keyed) (k na nb : Nat) (o : Array Keyed) : Prop where
  ml : MH c a b o na nb
  h0 : 0 < na
  ha : na ≤ a.size
  h1 : 1 < nb
  hb : nb ≤ b.size
  sz : k ≤ o.size
theorem HI.b0 {k na nb : Nat} {o : Array Keyed} (x : HI c a b k na nb o) : 0 < nb := Nat.lt_of_succ_lt x.h1
theorem HI.bi {k na nb : Nat} {o : Array Keyed} (x : HI c a b k na nb o) : nb - 1 < b.size := Nat.lt_of_lt_of_le (Nat.sub_lt x.b0 Nat.one_pos) x.hb
theorem HI.eq {k na nb : Nat} {o : Array Keyed} (x : HI c a b k na nb o) : o.size = a.size - na + (b.size - nb) := x.ml.size x.ha x.hb
theorem HI.le {k k' na nb : Nat} {o : Array Keyed} (x : HI c a b k na nb o) (h : k' ≤ k) : HI c a b k' na nb o := ⟨x.ml, x.h0, x.ha, x.h1, x.hb, Nat.le_trans h x.sz⟩
end
end TSrt
set_option Elab.async false
set_option linter.all false
set_option maxRecDepth 100000
namespace TSrt
open PySem PySem.W PyProof.Rows
theorem ats_ext {xs : Array Keyed} {i j t : Nat} (h : i + t < j) (hj : j ≤ xs.size) : ats (xs.extract i j) t = ats xs (i + t) := by
  refine ats_of ?_
  rw [Array.getElem?_extract, if_pos (by omega)]
theorem Asc.ext {c : Keyed → Keyed → Bool} {xs : Array Keyed} {i j : Nat} (h : Up c xs i j) (hj : j ≤ xs.size) : Asc c (xs.extract i j).toList := by
  refine List.pairwise_iff_getElem.mpr fun t u ht hu htu => ?_
  have z : (xs.extract i j).size = j - i := by rw [Array.size_extract]; (clear htu hu ht; omega)
  have hu' : u < j - i := by have := hu; rw [Array.length_toList, z] at this; exact this
  have e1 : (xs.extract i j).toList[t] = ats (xs.extract i j) t := by rw [ats_ge, List.getElem?_eq_getElem ht]; rfl
  have e2 : (xs.extract i j).toList[u] = ats (xs.extract i j) u := by rw [ats_ge, List.getElem?_eq_getElem hu]; rfl
  rw [e1, e2, ats_ext (by (clear z htu hj; omega)) hj, ats_ext (by (clear z hj; omega)) hj]
  exact h _ _ (by (clear hu' z htu hj; omega)) (by (clear hu' z hj; omega)) (by (clear z htu hj; omega))
section
variable {M : Model} {A : Around} {E : Value → Shared → Prop} {κ : SortKind} {a0 : Array Keyed} {c0 c : Keyed → Keyed → Bool} {ix : Keyed → Nat} {G : Shared → Prop}
end
end TSrt
set_option Elab.async false
set_option linter.all false
set_option maxRecDepth 100000
namespace TSrt
open PySem PySem.W PyProof.Rows
def Cov (c : Keyed → Keyed → Bool) (ix : Keyed → Nat) (xs : Array Keyed) : List (Nat × Nat) → Nat → Nat → Prop
  | [], p, q => p = q
  | (st, len) :: r, p, q => st = p ∧ 0 < len ∧ Up c xs p (p + len) ∧ Loc ix xs p (p + len) ∧ Cov c ix xs r (p + len) q
theorem Cov.app {c : Keyed → Keyed → Bool} {ix : Keyed → Nat} {xs : Array Keyed} : ∀ {l m : List (Nat × Nat)} {p q : Nat}, Cov c ix xs (l ++ m) p q ↔ ∃ t, Cov c ix xs l p t ∧ Cov c ix xs m t q
  | [], m, p, q => ⟨fun h => ⟨p, rfl, h⟩, fun ⟨t, e, h⟩ => by cases e; exact h⟩
  | (st, len) :: l, m, p, q => by
    show (st = p ∧ 0 < len ∧ Up c xs p (p + len) ∧ Loc ix xs p (p + len) ∧ Cov c ix xs (l ++ m) (p + len) q) ↔ _
    rw [Cov.app]
    constructor
    · rintro ⟨h1, h2, h3, h0, t, h4, h5⟩; exact ⟨t, ⟨h1, h2, h3, h0, h4⟩, h5⟩
    · rintro ⟨t, ⟨h1, h2, h3, h0, h4⟩, h5⟩; exact ⟨h1, h2, h3, h0, t, h4, h5⟩
theorem Cov.le {c : Keyed → Keyed → Bool} {ix : Keyed → Nat} {xs : Array Keyed} : ∀ {l : List (Nat × Nat)} {p q : Nat}, Cov c ix xs l p q → p + l.length ≤ q
  | [], p, q, h => by cases h; simp
  | (st, len) :: l, p, q, h => by
    have := Cov.le h.2.2.2.2
    have := h.2.1
    rw [List.length_cons]; omega
theorem Cov.same {c : Keyed → Keyed → Bool} {ix : Keyed → Nat} {xs ys : Array Keyed} : ∀ {l : List (Nat × Nat)} {p q : Nat}, (∀ j, p ≤ j → j < q → ats ys j = ats xs j) → Cov c ix xs l p q → Cov c ix ys l p q
  | [], p, q, _, h => h
  | (st, len) :: l, p, q, e, h => by
    have h1 := Cov.le h.2.2.2.2
    refine ⟨h.1, h.2.1, fun i j z1 z2 z3 => ?_, fun j z1 z2 => ?_, Cov.same (fun j z1 z2 => e j (by omega) z2) h.2.2.2.2⟩
    · rw [e i z1 (by omega), e j (by omega) (by omega)]
      exact h.2.2.1 i j z1 z2 z3
    · rw [e j z1 (by omega)]; exact h.2.2.2.1 j z1 z2
def two (x : Nat × Nat × Nat) : Nat × Nat := (x.1, x.2.1)
section
variable {M : Model} {A : Around} {E : Value → Shared → Prop} {κ : SortKind} {a0 : Array Keyed} {c0 c : Keyed → Keyed → Bool} {ix : Keyed → Nat} {G : Shared → Prop}
structure Ru (κ : SortKind) (a0 : Array Keyed) (c : Keyed → Keyed → Bool) (ix : Keyed → Nat) (st : SortSt) (q r : Nat) : Prop where
  sb : SB κ a0 st
  cov : Cov c ix (arrOf st) ((pendingOf st).toList.map two) 0 q
  raw : Raw ix (arrOf st) r
  le : q ≤ r
theorem Ru.more {st : SortSt} {lo n k : Nat} (r : Ru κ a0 c ix st lo (lo + n)) (h1 : 1 ≤ n) (up : Up c (arrOf st) lo (lo + n)) (lc : Loc ix (arrOf st) lo (lo + n)) : Ru κ a0 c ix (setPending st ((pendingOf st).push (lo, n, k))) (lo + n) (lo + n) := by
  refine ⟨⟨r.sb.pm, r.sb.kd, r.sb.fd⟩, ?_, r.raw, Nat.le_refl _⟩
  show Cov c ix (arrOf st) (((pendingOf st).push (lo, n, k)).toList.map two) 0 (lo + n)
  rw [Array.toList_push, List.map_append, Cov.app]
  exact ⟨lo, r.cov, rfl, h1, up, lc, rfl⟩
end
end TSrt
set_option Elab.async false
set_option linter.all false
set_option maxRecDepth 100000
namespace TSrt
open PySem PySem.W PyProof.Rows
def cN {κ : Type} (lt : κ → κ → Bool) (ks : Nat → κ) (i j : Nat) : Bool := lt (ks i) (ks j) || (!(lt (ks j) (ks i)) && decide (i < j))
def srt {κ : Type} (lt : κ → κ → Bool) (ks : Nat → κ) (n : Nat) : List Nat := (List.range n).mergeSort fun i j => !(cN lt ks j i)
section
variable {M : Model} {A : Around} {E : Value → Shared → Prop} {κ : SortKind} {G : Shared → Prop} {κt : Type} {lt : κt → κt → Bool} {ks : Nat → κt} {kvs vs : List Value}
end
end TSrt
set_option Elab.async false
set_option linter.all false
set_option maxRecDepth 100000
namespace TSrt
open PySem PySem.W PyProof.Rows PySem.Calls
def ltI (x y : Int) : Bool := decide (x < y)
def srtB {κ : Type} (lt : κ → κ → Bool) (b : Bool) (ks : Nat → κ) (n : Nat) : List Nat := if b then ((srt lt (fun i => ks (n - 1 - i)) n).map (fun i => n - 1 - i)).reverse else srt lt ks n
section
variable {prog : Program} {w : World} {A : Around} {E : Value → Shared → Prop} {s : Shared} {l q : Addr} {its : List Value} {b : Bool} {ks : Nat → Int}
end
end TSrt
set_option Elab.async false
set_option linter.all false
set_option maxRecDepth 100000
namespace L2
open PySem PySem.Spec PyProof.Rows
section
variable {X : Cx} {pins : List (Addr × Obj)} {σ : St} {H : Hp} {s : Shared} {h' : Heap}
end
end L2
namespace L3
open PySem L2 TSrt
open PyProof.Rows (boot_sorted callWith_kw kws_cons kws_nil Constant_bool)
section
variable {X : Cx} {K : PySem.W.Frag} {F0 H0 : Hp} {Ψ : Psi}
def intK (φ : List D → R) (d : D) : Option Int := match φ [d] with
  | .ok .fz (.int n) => some n
  | _ => none
def allSome : List (Option Int) → Option (List Int)
  | [] => some []
  | some x :: l => (allSome l).map (x :: ·)
  | none :: _ => none
def pickD (l : List Nat) (ds : List D) : List D := l.map fun i => ds.getD i .non
def sortKD (φ : List D → R) (b : Bool) (ds : List D) : R := match allSome (ds.map (intK φ)), keysL ds with
  | some ks, some kl => if kl.Nodup ∧ ds.length ≤ 100000 then .ok .ow (.lst (pickD (srtB ltI b (fun i => ks.getD i 0) ds.length) ds)) else .no
  | _, _ => .no
def sortKR (φ : List D → R) (b : Bool) : R → R
  | .ok _ (.lst ds) => sortKD φ b ds
  | .ex C => .ex C
  | _ => .no
def eSortK (φ : List D → R) (b : Bool) (f : Ev → R) (ev : Ev) : R := sortKR φ b (f ev)
end
end L3
set_option Elab.async false
set_option linter.all false
set_option maxRecDepth 100000
namespace TSrt
open PySem PySem.W PyProof.Rows PySem.Calls
def ltK : L2.Key → L2.Key → Bool
  | .inl x, .inl y => decide (x < y)
  | .inr x, .inr y => decide (x.cps.toList < y.cps.toList)
  | .inl _, .inr _ => true
  | .inr _, .inl _ => false
def lexK : List L2.Key → List L2.Key → Bool
  | x :: xs, y :: ys => if x = y then lexK xs ys else ltK x y
  | [], _ :: _ => true
  | _, [] => false
def kin : L2.Key → Bool
  | .inl _ => true
  | .inr _ => false
def KRel (k : L2.Key) (u : Value) : Prop := L2.RelV (L2.kV k) u
def KRels : List L2.Key → List Value → Prop
  | [], us => us = []
  | k :: ks, us => ∃ u r, us = u :: r ∧ KRel k u ∧ KRels ks r
section
variable {prog : Program} {w : World} {A : Around} {s : Shared}
def IsT (h : Heap) (u : Value) (k : List L2.Key) : Prop := ∃ a o us n, u = .ref a ∧ h.get? a = some o ∧ o.cls = .type "tuple" ∧ o.data = .seq (List.toArray us) n ∧ KRels k us
theorem IsT.keep {h h' : Heap} {u : Value} {k : List L2.Key} (x : IsT h u k) (e : ∀ a o, h.get? a = some o → h'.get? a = some o) : IsT h' u k := by
  obtain ⟨a, o, us, n, h1, h2, h3⟩ := x; exact ⟨a, o, us, n, h1, e a o h2, h3⟩
theorem KRels.len : ∀ {ks : List L2.Key} {us : List Value}, KRels ks us → us.length = ks.length
  | [], _, h => by have : _ = [] := h; subst this; rfl
  | _ :: _, _, h => by obtain ⟨u, r, rfl, _, h⟩ := h; simp [h.len]
end
end TSrt
set_option Elab.async false
set_option linter.all false
set_option maxRecDepth 100000
namespace L3
open PySem L2 TSrt
def okSh : List (List Key) → Bool
  | [] => true
  | k :: r => decide (k.head?.map kin = some true) && r.all fun j => decide (j.map kin = k.map kin)
section
variable {X : Cx}
def sortTD (ds : List D) : R := match keysL ds with
  | some kl => if kl.Nodup ∧ okSh kl = true ∧ ds.length ≤ 100000 then .ok .ow (.lst (pickD (srt lexK (fun i => kl.getD i []) ds.length) ds)) else .no
  | _ => .no
def sortTR : R → R
  | .ok _ (.lst ds) => sortTD ds
  | .ok _ (.scr ds) => sortTD ds
  | .ex C => .ex C
  | _ => .no
def eSortT (f : Ev → R) (ev : Ev) : R := sortTR (f ev)
variable {F0 H0 : Hp} {Ψ : Psi}
end
end L3
set_option Elab.async false
set_option linter.all false
set_option maxRecDepth 100000
namespace L3
open PySem L2 TSrt
def extR (i : Nat) (ds : List D) (ev : Ev) : R → Fl
  | .ok _ (.lst es) => if ds.length + es.length < LIM then .nx (ev.set i (some (.ow, .lst (ds ++ es)))) else .no
  | .ex C => .ex C
  | _ => .no
def extG (i : Nat) (f : Ev → R) (ev : Ev) : Fl := match ev[i]? with
  | some (some (.ow, .lst ds)) => extR i ds ev (f ev)
  | _ => .no
section
variable {X : Cx} {K : PySem.W.Frag} {F0 H0 : Hp} {Ψ : Psi} {σ : St} {H : Hp}
variable {e : Expr} {f : Ev → R} {x : Str} {p apos cpos pos : Pos}
def isBD : G2
  | .bl a, .bl b => some (.fz, .bl (a == b))
  | _, _ => none
def notBD : G2
  | .bl a, .bl b => some (.fz, .bl (!(a == b)))
  | _, _ => none
end
end L3
set_option Elab.async false
set_option linter.all false
set_option maxRecDepth 100000
namespace L3
open PySem L2 TSrt
mutual
def flatD : D → Bool
  | .non => true
  | .bl _ => true
  | .int _ => true
  | .str _ => true
  | .tup xs => flatL xs
  | _ => false
def flatL : List D → Bool
  | [] => true
  | d :: ds => flatD d && flatL ds
end
section
variable {X : Cx} {K : PySem.W.Frag} {F0 H0 : Hp} {Ψ : Psi} {σ : St} {H : Hp}
def setUR (j : Nat) (ev : Ev) : R → Fl
  | .ok .ow (.lst es) => if flatL es = true then .nx (ev.set j (some (.ow, .lst es))) else .no
  | .ex C => .ex C
  | _ => .no
def setUG (i j : Nat) (f : Ev → R) (ev : Ev) : Fl := match ev[i]? with
  | some (some (.ow, .lst ds)) => setUR j ev (f (ev.set i (some (.fz, .lst ds))))
  | _ => .no
end
section
variable {X : Cx} {F0 H0 : Hp} {Ψ : Psi} {osc scope : Scope} {N : List Str} {target iter elt : Expr} {ifs : List Expr} {pos : Pos} {fi : Ev → RI} {b : B1} {f e : Ev → R}
end
end L3
set_option Elab.async false
set_option linter.all false
set_option maxRecDepth 100000
namespace L3
open PySem L2
def NewT (H F' : Hp) (v : V) : Prop := ∃ a vs, v = .ref a ∧ F' a = some (.tup vs) ∧ ∀ (j : Nat) b, 1 ≤ j → vs[j]? = some (.ref b) → H b = none
def FlowToN (K : PySem.W.Frag) (F0 H0 F : Hp) (D : Ends) : Fl → Prop
  | .nx ev => ∀ F' H' σ', Same F F' → FI K F0 H0 F' H' ev σ' → D.nx σ' H'
  | .rt .fz d => ∀ F' v H', Post K F0 H0 .fz d F' v H' → NewT H0 F' v → D.rt v H'
  | _ => False
theorem FlowToN.mono {K : PySem.W.Frag} {F0 H0 F F' : Hp} {E : Ends} {r : Fl} (h : FlowToN K F0 H0 F E r) (s : Same F F') : FlowToN K F0 H0 F' E r := by
  cases r with
  | nx ev => exact fun F1 H1 σ1 s1 fi => h F1 H1 σ1 (s.trans s1) fi
  | rt k d => cases k <;> exact h
  | _ => exact h
section
variable {X : Cx} {F0 H0 : Hp} {g h : Ev → Fl} {st : Stmt} {sts rest : List Stmt} {pos : Pos}
variable {e0 e1 e2 : Expr} {f0 f1 f2 : Ev → R} {x1 : ExprCtx}
end
section
variable {P : Program} {w : World} {K : PySem.W.Frag} {mg : Str → Option Value} {base : Heap}
end
def setNR (i : Nat) (ev : Ev) : R → Fl
  | .ok .fz (.tup l) => if i < ev.length then .nx (ev.set i (some (.fz, .tup l))) else .no
  | .ex C => .ex C
  | _ => .no
def setNG (i : Nat) (f : Ev → R) (ev : Ev) : Fl := setNR i ev (f ev)
theorem FI.drop {K : PySem.W.Frag} {F0 H0 F H : Hp} {ev : Ev} {σ : St} (i : Nat) (w : Option V) (f : FI K F0 H0 F H ev σ) : FI K F0 H0 F H (ev.set i none) (σ.set i w) := by
  have key : ∀ (j : Nat) k d, (ev.set i none)[j]? = some (some (k, d)) → i ≠ j ∧ ev[j]? = some (some (k, d)) := fun j k d e => by
    by_cases h : i = j
    · subst h
      rw [List.getElem?_set_self'] at e
      cases q : ev[i]? with
      | none => rw [q] at e; cases e
      | some z => rw [q] at e; cases e
    · rw [List.getElem?_set_ne h] at e; exact ⟨h, e⟩
  refine ⟨f.st, fun j k d e => ?_, fun j m d1 d2 hjm e1 e2 => ?_, by simpa using f.len⟩
  · obtain ⟨n, e'⟩ := key j k d e
    rw [List.getElem?_set_ne n]; exact f.at_ j k d e'
  · obtain ⟨n1, e1'⟩ := key _ _ _ e1
    obtain ⟨n2, e2'⟩ := key _ _ _ e2
    rw [List.getElem?_set_ne n1, List.getElem?_set_ne n2]
    exact f.apart j m d1 d2 hjm e1' e2'
structure DI (K : PySem.W.Frag) (F0 H0 Fb Hb F H : Hp) (i : Nat) (l : List D) (ev : Ev) (σ : St) : Prop where
  fi : FI K F0 H0 F H ev σ
  fb : FI K F0 H0 Fb Hb (ev.set i none) σ
  st : Step Fb Hb F H
  at_ : ev[i]? = some (some (.fz, .tup l))
  nw : ∃ v, σ[i]? = some (some v) ∧ NewT Hb F v ∧ Rep K F (.tup l) v
section
variable {X : Cx} {K : PySem.W.Frag} {F0 H0 Fb Hb F H F' H' : Hp} {Ψ : Psi} {i : Nat} {l : List D} {ev : Ev} {σ : St}
theorem DI.later (d : DI K F0 H0 Fb Hb F H i l ev σ) (s : Step F H F' H') : DI K F0 H0 Fb Hb F' H' i l ev σ :=
  ⟨d.fi.later s, d.fb, d.st.trans s, d.at_, by
    obtain ⟨v, e, ⟨a, vs, h1, h2, h3⟩, r⟩ := d.nw
    exact ⟨v, e, ⟨a, vs, h1, s.up _ _ h2, h3⟩, r.mono s.up⟩⟩
variable {k n : Nat} {x y : Str} {φ : List D → R} {p p' pos pos' : Pos} {e : Expr} {es : List Expr} {fs : Ev → RA} {sts body : List Stmt} {h g : Ev → Fl}
def halfG (i j : Nat) (ev : Ev) : Fl := match ev[i]? with
  | some (some (.fz, .tup l)) => match l[j]? with
    | some (.lst _) => .nx ev
    | _ => .no
  | _ => .no
def goneC (i j : Nat) (ev : Ev) : Fl := match ev[i]? with
  | some (some (.fz, .tup l)) => match l[j]? with
    | some (.lst _) => .nx (ev.set i none)
    | _ => .no
  | _ => .no
def goneA (i j : Nat) (f : Ev → R) (ev : Ev) : Fl := match ev[i]? with
  | some (some (.fz, .tup l)) => match l[j]? with
    | some (.lst ls) => if ls.length < LIM then dropG f (ev.set i none) else .no
    | _ => .no
  | _ => .no
variable {ji : Int} {kk : Nat} {q1 q2 q3 q4 q5 apos cpos : Pos}
end
end L3
set_option Elab.async false
set_option linter.all false
set_option maxRecDepth 100000
namespace L3
open PySem L2 PySem.SeqAt
def cntD (xs : List D) (b : D) : Option (Kd × D) := match pyL xs, py b with
  | some qs, some p => if p.depth ≤ DEEP then some (.fz, .int ((qs.countP fun q => q.eqv p : Nat) : Int)) else none
  | _, _ => none
def cntR2 (xs : List D) : R → R
  | .ok _ d => toR (cntD xs d)
  | .ex C => .ex C
  | .no => .no
def cntR : R → R → R
  | .ok _ (.lst xs), r => cntR2 xs r
  | .ex C, _ => .ex C
  | _, _ => .no
def eCnt (f1 f2 : Ev → R) (ev : Ev) : R := cntR (f1 ev) (f2 ev)
section
variable {X : Cx} {F0 H0 : Hp} {Ψ : Psi} {a b : Expr} {f1 f2 : Ev → R} {apos cpos : Pos}
end
end L3
set_option Elab.async false
set_option linter.all false
set_option maxRecDepth 100000
namespace L3
open PySem L2
def pickS (x : Str) (i : Int) : List Nat := Builtin.Str.strSliceIndices (some i) none 1 x.length
def cutS (x : Str) (i : Int) : Str := if ((pickS x i).length == x.length) = true then x else ⟨((pickS x i).filterMap (x.cps[·]?)).toArray⟩
def slSR : R → R → R
  | .ok _ (.str x), r => (match r with
    | .ok _ (.int i) => if (cutS x i).length ≤ LIM then .ok .fz (.str (cutS x i)) else .no
    | .ex C => .ex C
    | _ => .no)
  | .ex C, _ => .ex C
  | _, _ => .no
def eSlS (f1 f2 : Ev → R) (ev : Ev) : R := slSR (f1 ev) (f2 ev)
section
variable {X : Cx} {F0 H0 : Hp} {Ψ : Psi} {a b : Expr} {f1 f2 : Ev → R} {p2 pos : Pos}
end
end L3
set_option Elab.async false
set_option linter.all false
set_option maxRecDepth 100000
namespace L3
open PySem L2
theorem RdV.obj {K : PySem.W.Frag} {F H : Hp} {c : Str} {ns : List Str} {xs : List D} {v : V} (s : Same F H) (h : RdV K F H (.obj c ns xs) v) :
    ∃ a C dx vs, v = .ref a ∧ PySem.W.nsIn K mainGlobals c = some (some (.ref C)) ∧ H a = some (.ins C dx (ns.zip vs)) ∧ ns.length = vs.length ∧ Reps K F xs vs := by
  rcases h with h | ⟨a, h1, h⟩
  · rw [Rep] at h
    obtain ⟨a, C, dx, vs, h1, hc, h2, h3, h4⟩ := h
    exact ⟨a, C, dx, vs, h1, hc, s _ _ h2, h3, h4⟩
  · obtain ⟨C, dx, vs, hc, h2, h3, h4⟩ := h
    exact ⟨a, C, dx, vs, h1, hc, h2, h3, h4⟩
section
variable {X : Cx} {F0 H0 : Hp} {Ψ : Psi} {e o : Expr} {es : List Expr} {f : Str} {cs : List Str} {g : Ev → R} {fs : Ev → RA} {pos p apos : Pos}
abbrev MTab := List (Str × (List D → R))
def DispOk (P : Program) (w : World) (K : PySem.W.Frag) (mg : Str → Option Value) (base : Heap) (k : Nat) (m : Str) (n : Nat) (tab : MTab) : Prop :=
  ∀ c φ, (c, φ) ∈ tab → ∃ C f fd ps, PySem.W.nsIn K mainGlobals c = some (some (.ref C)) ∧ Cls K C ∧ Meth K C m f ∧ FnOk P w K mg base CX0 k f fd ps (spV0 K φ n) ∧ Binds K fd ps []
section
variable {P : Program} {w : World} {K : PySem.W.Frag} {mg : Str → Option Value} {base : Heap}
theorem DispOk.mono {k j n : Nat} {m : Str} {tab : MTab} (h : DispOk P w K mg base j m n tab) (hj : j ≤ k) : DispOk P w K mg base k m n tab := fun c φ q => by
  obtain ⟨C, f, fd, ps, h1, h2, h3, h4, h5⟩ := h c φ q
  exact ⟨C, f, fd, ps, h1, h2, h3, h4.mono hj, h5⟩
end
end
section
variable {X : Cx} {F0 H0 : Hp} {x C dx : Addr} {ns : List Str} {fs : List (Ev → R)} {f : Ev → R} {fld sl : Str} {e : Expr} {rest : List Stmt} {p apos pos : Pos}
end
section
variable {P : Program} {w : World} {K : PySem.W.Frag} {mg : Str → Option Value} {base : Heap}
structure FunD (K : PySem.W.Frag) (x qual : Str) (st : Stmt) (f : Addr) (dV : Value) (fd : FuncData) : Prop where
  ex : ∃ (oc : Value) (od : Option Addr) (kV doc pm : Value) (an : Option Addr) (cdv ct : Value) (osl : Array (Option Value)),
    fd = PySem.W.fnOf x qual (defArgs st) (defBody st) (defScope st) dV kV doc pm an cdv ct ∧ K.lookup f = some ⟨oc, od, .func fd, osl⟩ ∧ PySem.W.codeIn K cdv qual = true
theorem FunD.ok {x qual : Str} {st : Stmt} {f : Addr} {dV : Value} {fd : FuncData} {N ps : List Str} {k : Nat} {sp : Sp} (F : FunD K x qual st f dV fd) (S : FnScope N ps (defScope st)) (len : ∀ vs H Q E, sp vs H Q E → vs.length = ps.length)
    (hbody : ∀ (cdv : Value) (A : Around) (outer : List Env) (s : Shared) (H : Hp) (vs : List V) (Q : VK) (E : XK), Room k (A.deeper (PyProof.Rows.envOfC qual (defScope st) s.heap.objs.size f cdv)) → sp vs H Q E →
      ∃ t, PSs (cxOf CX0 P w K mg base N qual (defScope st) f cdv A outer s H E).nox (defBody st) t ∧ t { nx := fun _ H' => Q .non H', rt := Q } (start N vs) H) : FnOk P w K mg base CX0 (k + 1) f fd ps sp := by
  obtain ⟨oc, od, kV, doc, pm, an, cdv, ct, osl, rfl, lk, hcd⟩ := F.ex
  refine fn_of lk hcd S len fun A outer s H vs Q E hr hsp => ?_
  obtain ⟨t, h, q⟩ := hbody cdv A outer s H vs Q E hr hsp
  exact ⟨t, h.nox, q⟩
end
section
variable {X : Cx} {F0 H0 : Hp} {Ψ : Psi} {k n : Nat} {c : Str} {ns : List Str} {fs : List (Ev → R)} {dv : List D} {as : Ev → RA} {e : Expr} {es : List Expr} {p pos : Pos}
end
end L3
set_option Elab.async false
set_option linter.all false
set_option maxRecDepth 100000
namespace L3
open PySem L2 PySem.W
section
variable {X : Cx} {C : Addr} {x : Str} {p pos : Pos}
end
section
variable {X : Cx} {F0 H0 : Hp} {Ψ : Psi} {e : Expr} {g : Ev → R} {s : Str} {p p2 pos : Pos} {tab : List (Str × Bool)}
end
section
variable {P : Program} {w : World} {K : PySem.W.Frag} {mg : Str → Option Value} {base : Heap}
end
section
variable {X : Cx} {F0 H0 : Hp} {Ψ : Psi} {k n : Nat} {c : Str} {ns ks : List Str} {fs : List (Ev → R)} {as ka : Ev → RA} {g : Ev → R} {e : Expr} {es : List Expr} {kws : List Keyword} {p pos kpos : Pos} {nm : Option Str}
end
end L3
set_option Elab.async false
set_option linter.all false
set_option maxRecDepth 100000
namespace L3
open PySem L2
section
variable {X : Cx} {F0 H0 : Hp} {Ψ : Psi} {a b e : Expr} {f f1 f2 : Ev → R} {p2 pos pos' : Pos}
end
end L3
set_option Elab.async false
set_option linter.all false
set_option maxRecDepth 100000
namespace L2
open PySem PySem.Spec PyProof.Rows
section
variable {X : Cx}
end
end L2
namespace L3
open PySem L2
section
variable {X : Cx} {F0 H0 : Hp} {Ψ : Psi}
end
end L3
set_option Elab.async false
set_option linter.all false
set_option maxRecDepth 100000
namespace L3
open PySem L2
structure DJ (K : PySem.W.Frag) (F0 H0 Fb Hb F H : Hp) (i : Nat) (l : List D) (ev : Ev) (σ : St) : Prop where
  fi : FI K F0 H0 F H ev σ
  fb : FI K F0 H0 Fb Hb (ev.set i none) σ
  st : Step Fb Hb F H
  at_ : ev[i]? = some (some (.fz, .tup l))
  nw : ∃ a vs, σ[i]? = some (some (.ref a)) ∧ F a = some (.tup vs) ∧ Reps K F l vs ∧ ∀ (j : Nat) ls b, 1 ≤ j → l[j]? = some (.lst ls) → vs[j]? = some (.ref b) → Hb b = none
section
variable {X : Cx} {K : PySem.W.Frag} {F0 H0 Fb Hb F H F' H' : Hp} {Ψ : Psi} {i : Nat} {l : List D} {ev : Ev} {σ : St}
theorem DJ.later (d : DJ K F0 H0 Fb Hb F H i l ev σ) (s : Step F H F' H') : DJ K F0 H0 Fb Hb F' H' i l ev σ :=
  ⟨d.fi.later s, d.fb, d.st.trans s, d.at_, by
    obtain ⟨a, vs, e, h2, r, h3⟩ := d.nw
    exact ⟨a, vs, e, s.up _ _ h2, r.mono s.up, h3⟩⟩
variable {k n : Nat} {x y : Str} {φ : List D → R} {p p' pos pos' : Pos} {e : Expr} {es : List Expr} {fs : Ev → RA} {sts body : List Stmt} {h g : Ev → Fl}
variable {ji : Int} {kk : Nat} {q1 q2 q3 q4 q5 apos cpos : Pos}
end
section
variable {X : Cx} {K : PySem.W.Frag}
open PySem
theorem vals_ints : ∀ {ns : List Int} {us : List Value}, Vals (ns.map V.int) us → ∃ ps : List (Int × Tok), us = ps.map (fun p => .int p.1 p.2) ∧ ps.map (·.1) = ns
  | [], _, r => by cases r; exact ⟨[], rfl, rfl⟩
  | n :: ns, _, r => by
    cases r with
    | cons r1 r2 =>
      obtain ⟨t, rfl⟩ := r1
      obtain ⟨ps, rfl, h⟩ := vals_ints r2
      exact ⟨(n, t) :: ps, rfl, by rw [List.map_cons, h]⟩
variable {F0 H0 : Hp} {Ψ : Psi} {a b c e : Expr} {es : List Expr} {f f1 f2 f3 : Ev → R} {fs : Ev → RA} {pos p : Pos}
end
end L3
set_option Elab.async false
set_option linter.all false
set_option maxRecDepth 100000
namespace L3
open PySem L2
mutual
def sealD : D → Option D
  | .non => some .non
  | .bl b => some (.bl b)
  | .int i => some (.int i)
  | .str x => some (.str x)
  | .tup xs => (sealL xs).map .tup
  | .lst xs => (sealL xs).map .scr
  | .scr xs => (sealL xs).map .scr
  | .dK _ _ => none
  | .dT _ _ => none
  | .obj _ _ _ => none
  | .ty _ => none
def sealL : List D → Option (List D)
  | [] => some []
  | d :: ds => (sealD d).bind fun d' => (sealL ds).map fun l => d' :: l
end
def slH (og : Addr → Option Obj) (F G : Hp) : Hp := fun a => match F a, og a with
  | some (.lst xs), some o => some (.frz o (.lst xs))
  | _, _ => G a
def unH (F G : Hp) : Hp := fun a => match F a with
  | some (.lst xs) => some (.lst xs)
  | _ => G a
section
variable {h : Heap} {og : Addr → Option Obj} {F G H : Hp} {a : Addr}
theorem slH_l {xs : List V} {o : Obj} (e : F a = some (.lst xs)) (e2 : og a = some o) : slH og F G a = some (.frz o (.lst xs)) := by simp only [slH, e, e2]
theorem slH_n (e : ∀ xs, F a ≠ some (.lst xs)) : slH og F G a = G a := by
  unfold slH
  split
  · rename_i xs o e1 e2; exact absurd e1 (e xs)
  · rfl
theorem unH_l {xs : List V} (e : F a = some (.lst xs)) : unH F G a = some (.lst xs) := by simp only [unH, e]
theorem unH_n (e : ∀ xs, F a ≠ some (.lst xs)) : unH F G a = G a := by
  unfold unH
  split
  · rename_i xs e1; exact absurd e1 (e xs)
  · rfl
theorem isl (F : Hp) (a : Addr) : (∃ xs, F a = some (.lst xs)) ∨ ∀ xs, F a ≠ some (.lst xs) := by
  by_cases c : ∃ xs, F a = some (.lst xs)
  · exact .inl c
  · exact .inr fun xs e => c ⟨xs, e⟩
variable {P : Program} {w : World} {K : PySem.W.Frag}
theorem hok_obj (x : HOk P w H h) (s : Same F H) {xs : List V} (e : F a = some (.lst xs)) : ∃ o, h.get? a = some o := by
  obtain ⟨_, its, n, _, q⟩ := x a _ (s _ _ e)
  exact ⟨_, q⟩
mutual
theorem Rep.sl (g : ∀ a xs, F a = some (.lst xs) → ∃ o, og a = some o) : ∀ {d d' : D} {v : V}, Rep K F d v → sealD d = some d' → Rep K (slH og F F) d' v
  | .non, _, _, r, e => by cases e; exact r
  | .bl _, _, _, r, e => by cases e; exact r
  | .int _, _, _, r, e => by cases e; exact r
  | .str _, _, _, r, e => by cases e; exact r
  | .tup xs, _, _, r, e => by
    rw [Rep] at r
    obtain ⟨a, vs, rfl, h1, h2⟩ := r
    simp only [sealD, Option.map_eq_some_iff] at e
    obtain ⟨l, e, rfl⟩ := e
    rw [Rep]
    exact ⟨a, vs, rfl, by rw [slH_n (fun xs z => by rw [h1] at z; cases z)]; exact h1, Reps.sl g h2 e⟩
  | .lst xs, _, _, r, e => by
    rw [Rep] at r
    obtain ⟨a, vs, rfl, h1, h2⟩ := r
    simp only [sealD, Option.map_eq_some_iff] at e
    obtain ⟨l, e, rfl⟩ := e
    obtain ⟨o, ho⟩ := g _ _ h1
    rw [Rep]
    exact ⟨a, vs, rfl, .inl (.inr ⟨o, slH_l h1 ho⟩), Reps.sl g h2 e⟩
  | .scr xs, _, _, r, e => by
    rw [Rep] at r
    obtain ⟨a, vs, rfl, h1, h2⟩ := r
    simp only [sealD, Option.map_eq_some_iff] at e
    obtain ⟨l, e, rfl⟩ := e
    rw [Rep]
    refine ⟨a, vs, rfl, ?_, Reps.sl g h2 e⟩
    rcases h1 with (h1 | ⟨o, h1⟩) | h1
    · obtain ⟨o, ho⟩ := g _ _ h1
      exact .inl (.inr ⟨o, slH_l h1 ho⟩)
    · exact .inl (.inr ⟨o, by rw [slH_n (fun xs z => by rw [h1] at z; cases z)]; exact h1⟩)
    · exact .inr h1
  | .dK _ _, _, _, _, e => by cases e
  | .dT _ _, _, _, _, e => by cases e
  | .obj _ _ _, _, _, _, e => by cases e
  | .ty _, _, _, _, e => by cases e
theorem Reps.sl (g : ∀ a xs, F a = some (.lst xs) → ∃ o, og a = some o) : ∀ {ds ds' : List D} {vs : List V}, Reps K F ds vs → sealL ds = some ds' → Reps K (slH og F F) ds' vs
  | [], _, _, r, e => by cases e; exact r
  | d :: ds, _, _, r, e => by
    rw [Reps] at r
    obtain ⟨v, rest, rfl, h1, h2⟩ := r
    simp only [sealL, Option.bind_eq_some_iff, Option.map_eq_some_iff] at e
    obtain ⟨d', e1, l, e2, rfl⟩ := e
    rw [Reps]
    exact ⟨v, rest, rfl, Rep.sl g h1 e1, Reps.sl g h2 e2⟩
end
mutual
theorem Rep.un {F1 : Hp} (g : ∀ a xs, F a = some (.lst xs) → ∃ o, F1 a = some (.frz o (.lst xs))) : ∀ {d : D} {v : V}, Rep K F1 d v → Rep K (unH F F1) d v
  | .non, _, r => r
  | .bl _, _, r => r
  | .int _, _, r => r
  | .str _, _, r => r
  | .ty _, _, r => r
  | .tup xs, _, r => by
    rw [Rep] at r ⊢
    obtain ⟨a, vs, rfl, h1, h2⟩ := r
    exact ⟨a, vs, rfl, by rw [unH_n (fun xs z => by obtain ⟨o, q⟩ := g _ _ z; rw [h1] at q; cases q)]; exact h1, Reps.un g h2⟩
  | .lst xs, _, r => by
    rw [Rep] at r ⊢
    obtain ⟨a, vs, rfl, h1, h2⟩ := r
    exact ⟨a, vs, rfl, by rw [unH_n (fun xs z => by obtain ⟨o, q⟩ := g _ _ z; rw [h1] at q; cases q)]; exact h1, Reps.un g h2⟩
  | .dK ks xs, _, r => by
    rw [Rep] at r ⊢
    obtain ⟨a, vs, rfl, h1, h3, h2⟩ := r
    exact ⟨a, vs, rfl, by rw [unH_n (fun xs z => by obtain ⟨o, q⟩ := g _ _ z; rw [h1] at q; cases q)]; exact h1, h3, Reps.un g h2⟩
  | .dT ks xs, _, r => by
    rw [Rep] at r ⊢
    obtain ⟨a, vs, rfl, h1, h3, h2⟩ := r
    exact ⟨a, vs, rfl, by rw [unH_n (fun xs z => by obtain ⟨o, q⟩ := g _ _ z; rw [h1] at q; cases q)]; exact h1, h3, Reps.un g h2⟩
  | .obj c ns xs, _, r => by
    rw [Rep] at r ⊢
    obtain ⟨a, C, dx, vs, rfl, h0, h1, h3, h2⟩ := r
    exact ⟨a, C, dx, vs, rfl, h0, by rw [unH_n (fun xs z => by obtain ⟨o, q⟩ := g _ _ z; rw [h1] at q; cases q)]; exact h1, h3, Reps.un g h2⟩
  | .scr xs, _, r => by
    rw [Rep] at r ⊢
    obtain ⟨a, vs, rfl, h1, h2⟩ := r
    refine ⟨a, vs, rfl, ?_, Reps.un g h2⟩
    rcases h1 with (h1 | ⟨o, h1⟩) | h1
    · exact .inl (.inl (by rw [unH_n (fun xs z => by obtain ⟨o, q⟩ := g _ _ z; rw [h1] at q; cases q)]; exact h1))
    · rcases isl F a with ⟨ys, q⟩ | q
      · obtain ⟨o', q'⟩ := g _ _ q
        rw [h1] at q'; cases q'
        exact .inl (.inl (unH_l q))
      · exact .inl (.inr ⟨o, by rw [unH_n q]; exact h1⟩)
    · exact .inr h1
theorem Reps.un {F1 : Hp} (g : ∀ a xs, F a = some (.lst xs) → ∃ o, F1 a = some (.frz o (.lst xs))) : ∀ {ds : List D} {vs : List V}, Reps K F1 ds vs → Reps K (unH F F1) ds vs
  | [], _, r => r
  | d :: ds, _, r => by
    rw [Reps] at r ⊢
    obtain ⟨v, rest, rfl, h1, h2⟩ := r
    exact ⟨v, rest, rfl, Rep.un g h1, Reps.un g h2⟩
end
theorem Step.un {F1 H1 : Hp} (x : HOk P w H h) (s : Same F H) (st : Step (slH h.get? F F) (slH h.get? F H) F1 H1) : Step F H (unH F F1) (unH F H1) := by
  have g : ∀ {G : Hp} a xs, F a = some (.lst xs) → ∃ o, slH h.get? F G a = some (.frz o (.lst xs)) := fun a xs e => by
    obtain ⟨o, ho⟩ := hok_obj x s e
    exact ⟨o, slH_l e ho⟩
  refine ⟨fun a o e => ?_, fun a o e => ?_, fun a o e => ?_, fun a o e => ?_⟩
  · rcases isl F a with ⟨xs, q⟩ | q
    · rw [unH_l q, ← q]; exact e
    · rw [unH_n q]; exact st.up _ _ (by rw [slH_n q]; exact e)
  · rcases isl F a with ⟨xs, q⟩ | q
    · rw [unH_l q] at e ⊢; exact e
    · rw [unH_n q] at e ⊢; exact st.sub _ _ e
  · rcases isl F a with ⟨xs, q⟩ | q
    · rw [unH_l q, ← s _ _ q]; exact e
    · rw [unH_n q]; exact st.keep _ _ (by rw [slH_n q]; exact e)
  · rcases isl F a with ⟨xs, q⟩ | q
    · rw [unH_l q] at e; cases e; exact .inl q
    · rw [unH_n q] at e
      rcases st.new _ _ e with e1 | e1
      · rw [slH_n q] at e1; exact .inl e1
      · rw [slH_n q] at e1; exact .inr e1
end
end L3
set_option Elab.async false
set_option linter.all false
set_option maxRecDepth 100000
namespace L3
open PySem L2
section
variable {ev e : Ev} {f f1 f2 c : Ev → R} {fs : Ev → RA} {g h body : Ev → Fl} {k k1 k2 : Kd} {d d1 d2 : D} {C : Addr} {i n : Nat}
@[simp] theorem ev_at0 {α : Type} {a : α} {l : List α} : (a :: l)[0]? = some a := (rfl)
@[simp] theorem ev_atS {α : Type} {a : α} {l : List α} : (a :: l)[i + 1]? = l[i]? := (rfl)
def bindFl (r : Fl) (h : Ev → Fl) : Fl := match r with
  | .nx e => h e
  | r => r
@[simp] theorem seqG_eq : seqG g h ev = bindFl (g ev) h := (rfl)
@[simp] theorem bind_nx : bindFl (.nx e) h = h e := (rfl)
@[simp] theorem bind_rt : bindFl (.rt k d) h = .rt k d := (rfl)
@[simp] theorem bind_bk : bindFl (.bk e) h = .bk e := (rfl)
@[simp] theorem bind_ct : bindFl (.ct e) h = .ct e := (rfl)
@[simp] theorem bind_ex : bindFl (.ex C) h = .ex C := (rfl)
def setR (i : Nat) (r : R) (ev : Ev) : Fl := match r with
  | .ok .bo _ => .no
  | .ok k d => .nx (ev.set i (some (k, d)))
  | .ex C => .ex C
  | .no => .no
@[simp] theorem setG_eq : setG i f ev = setR i (f ev) ev := (rfl)
@[simp] theorem setR_fz : setR i (.ok .fz d) ev = .nx (ev.set i (some (.fz, d))) := (rfl)
@[simp] theorem setR_ow : setR i (.ok .ow d) ev = .nx (ev.set i (some (.ow, d))) := (rfl)
@[simp] theorem setR_ex : setR i (.ex C) ev = .ex C := (rfl)
def retR (r : R) : Fl := match r with
  | .ok .bo _ => .no
  | .ok k d => .rt k d
  | .ex C => .ex C
  | .no => .no
@[simp] theorem retG_eq : retG f ev = retR (f ev) := (rfl)
@[simp] theorem retR_fz : retR (.ok .fz d) = .rt .fz d := (rfl)
@[simp] theorem retR_ow : retR (.ok .ow d) = .rt .ow d := (rfl)
@[simp] theorem retR_ex : retR (.ex C) = .ex C := (rfl)
def retVR (o : Option (Option (Kd × D))) : Fl := match o with
  | some (some (.fz, d)) => .rt .fz d
  | some (some (.ow, d)) => .rt .ow d
  | _ => .no
@[simp] theorem retVarG_eq : retVarG i ev = retVR ev[i]? := (rfl)
@[simp] theorem retVR_fz : retVR (some (some (.fz, d))) = .rt .fz d := (rfl)
@[simp] theorem retVR_ow : retVR (some (some (.ow, d))) = .rt .ow d := (rfl)
def dropR (r : R) (ev : Ev) : Fl := match r with
  | .ok _ _ => .nx ev
  | .ex C => .ex C
  | .no => .no
@[simp] theorem dropG_eq : dropG f ev = dropR (f ev) ev := (rfl)
@[simp] theorem dropR_ok : dropR (.ok k d) ev = .nx ev := (rfl)
@[simp] theorem dropR_ex : dropR (.ex C) ev = .ex C := (rfl)
def ifFl (r : R) (g h : Ev → Fl) (ev : Ev) : Fl := match r with
  | .ok _ (.bl b) => if b then g ev else h ev
  | .ex C => .ex C
  | _ => .no
@[simp] theorem ifG_eq : ifG c g h ev = ifFl (c ev) g h ev := (rfl)
@[simp] theorem ifFl_t : ifFl (.ok k (.bl true)) g h ev = g ev := (rfl)
@[simp] theorem ifFl_f : ifFl (.ok k (.bl false)) g h ev = h ev := (rfl)
@[simp] theorem ifFl_ex : ifFl (.ex C) g h ev = .ex C := (rfl)
def asgR (b : B1) (r : R) (ev : Ev) : Fl := match r with
  | .ok .bo _ => .no
  | .ok _ d => match b d ev with
    | some ev' => .nx ev'
    | none => .no
  | .ex C => .ex C
  | .no => .no
def nxO : Option Ev → Fl
  | some e => .nx e
  | none => .no
@[simp] theorem nxO_some : nxO (some e) = .nx e := (rfl)
@[simp] theorem asgG_eq {b : B1} : asgG b f ev = asgR b (f ev) ev := (rfl)
@[simp] theorem asgR_fz {b : B1} : asgR b (.ok .fz d) ev = nxO (b d ev) := by unfold asgR nxO; rfl
@[simp] theorem asgR_ow {b : B1} : asgR b (.ok .ow d) ev = nxO (b d ev) := by unfold asgR nxO; rfl
@[simp] theorem asgR_ex {b : B1} : asgR b (.ex C) ev = .ex C := (rfl)
@[simp] theorem frzG_eq : frzG i g ev = g (frzEv i ev) := (rfl)
def frzO (i : Nat) (o : Option (Option (Kd × D))) (ev : Ev) : Ev := match o with
  | some (some (.ow, d)) => ev.set i (some (.fz, d))
  | _ => ev
@[simp] theorem frzEv_eq : frzEv i ev = frzO i ev[i]? ev := (rfl)
@[simp] theorem frzO_ow : frzO i (some (some (.ow, d))) ev = ev.set i (some (.fz, d)) := (rfl)
@[simp] theorem frzO_fz : frzO i (some (some (.fz, d))) ev = ev := (rfl)
@[simp] theorem frzO_no : frzO i (some none) ev = ev := (rfl)
def appR (i : Nat) (o : Option (Option (Kd × D))) (f : Ev → R) (ev : Ev) : Fl := match o with
  | some (some (.ow, .lst ds)) => match f ev with
    | .ok .bo _ => .no
    | .ok _ d => if ds.length < LIM then .nx (ev.set i (some (.ow, .lst (ds ++ [d])))) else .no
    | .ex C => .ex C
    | .no => .no
  | _ => .no
def appR2 (i : Nat) (ds : List D) (r : R) (ev : Ev) : Fl := match r with
    | .ok .bo _ => .no
    | .ok _ d => if ds.length < LIM then .nx (ev.set i (some (.ow, .lst (ds ++ [d])))) else .no
    | .ex C => .ex C
    | .no => .no
@[simp] theorem appG_eq : appG i f ev = appR i ev[i]? f ev := (rfl)
@[simp] theorem appR_ow {ds : List D} : appR i (some (some (.ow, .lst ds))) f ev = appR2 i ds (f ev) ev := (rfl)
@[simp] theorem appR2_fz {ds : List D} : appR2 i ds (.ok .fz d) ev = if ds.length < LIM then .nx (ev.set i (some (.ow, .lst (ds ++ [d])))) else .no := (rfl)
@[simp] theorem appR2_ow {ds : List D} : appR2 i ds (.ok .ow d) ev = if ds.length < LIM then .nx (ev.set i (some (.ow, .lst (ds ++ [d])))) else .no := (rfl)
def sitR3 (i : Nat) (ds : List D) (d : D) (o : Option Nat) (ev : Ev) : Fl := match o with
  | some j => .nx (ev.set i (some (.ow, .lst (ds.set j d))))
  | none => .no
def sitR2 (i : Nat) (ds : List D) (d : D) (r : R) (ev : Ev) : Fl := match r with
  | .ok _ (.int k) => sitR3 i ds d (ixN ds.length k) ev
  | .ex C => .ex C
  | _ => .no
def sitK (i : Nat) (ks : List Key) (xs : List D) (d : D) (o : Option Key) (ev : Ev) : Fl := match o with
  | some k => if ks.length < LIM then .nx (ev.set i (some (.ow, .dK (dPutK ks k) (dPutV ks xs k d)))) else .no
  | none => .no
def sitD (i : Nat) (ks : List Key) (xs : List D) (d : D) (r : R) (ev : Ev) : Fl := match r with
  | .ok _ kd => sitK i ks xs d (keyD kd) ev
  | .ex C => .ex C
  | .no => .no
def sitKT (i : Nat) (ks : List (List Key)) (xs : List D) (d : D) (o : Option (List Key)) (ev : Ev) : Fl := match o with
  | some k => if ks.length < LIM then .nx (ev.set i (some (.ow, .dT (dPutK ks k) (dPutV ks xs k d)))) else .no
  | none => .no
def sitT (i : Nat) (ks : List (List Key)) (xs : List D) (d : D) (r : R) (ev : Ev) : Fl := match r with
  | .ok _ (.tup l) => sitKT i ks xs d (keysD l) ev
  | .ex C => .ex C
  | _ => .no
def sitR1 (i : Nat) (d : D) (o : Option (Option (Kd × D))) (f : Ev → R) (ev : Ev) : Fl := match o with
  | some (some (.ow, .lst ds)) => sitR2 i ds d (f ev) ev
  | some (some (.ow, .dK ks xs)) => sitD i ks xs d (f ev) ev
  | some (some (.ow, .dT ks xs)) => sitT i ks xs d (f ev) ev
  | _ => .no
def sitR (i : Nat) (f : Ev → R) (r : R) (ev : Ev) : Fl := match r with
  | .ok .bo _ => .no
  | .ok _ d => sitR1 i d ev[i]? f ev
  | .ex C => .ex C
  | .no => .no
@[simp] theorem setItG_eq : setItG i f f2 ev = sitR i f (f2 ev) ev := by
  unfold setItG
  by_cases c : isLst ev[i]? = true
  · rw [if_pos c]
    unfold isLst at c
    split at c
    · rename_i ds e
      unfold setLG sitR
      rw [e]
      generalize f2 ev = r
      cases r with
      | ok k d => cases k <;> rfl
      | ex C => rfl
      | no => rfl
    · cases c
  · rw [if_neg c]
    have key : ∀ o : Option (Option (Kd × D)), isLst o ≠ true → ∀ d, (match o with
      | some (some (.ow, .dK ks xs)) => match f ev with
        | .ok _ kd => match keyD kd with
          | some k => if ks.length < LIM then Fl.nx (ev.set i (some (.ow, .dK (dPutK ks k) (dPutV ks xs k d)))) else .no
          | none => .no
        | .ex C => .ex C
        | .no => .no
      | some (some (.ow, .dT ks xs)) => match f ev with
        | .ok _ (.tup l) => match keysD l with
          | some k => if ks.length < LIM then Fl.nx (ev.set i (some (.ow, .dT (dPutK ks k) (dPutV ks xs k d)))) else .no
          | none => .no
        | .ex C => .ex C
        | _ => .no
      | _ => .no) = sitR1 i d o f ev := fun o ho d => by
      cases o with
      | none => rfl
      | some o =>
        cases o with
        | none => rfl
        | some z =>
          obtain ⟨k, z⟩ := z
          cases k <;> try rfl
          cases z <;> first | rfl | exact absurd rfl ho
    unfold setDG sitR
    generalize f2 ev = r
    cases r with
    | ok k d => cases k with
      | bo => rfl
      | fz => exact key _ c d
      | ow => exact key _ c d
    | ex C => rfl
    | no => rfl
@[simp] theorem sitR_fz : sitR i f (.ok .fz d) ev = sitR1 i d ev[i]? f ev := (rfl)
@[simp] theorem sitR_ow : sitR i f (.ok .ow d) ev = sitR1 i d ev[i]? f ev := (rfl)
@[simp] theorem sitR_ex : sitR i f (.ex C) ev = .ex C := (rfl)
@[simp] theorem sitR1_ow {ds : List D} : sitR1 i d (some (some (.ow, .lst ds))) f ev = sitR2 i ds d (f ev) ev := (rfl)
@[simp] theorem sitR1_dK {ks : List Key} {xs : List D} : sitR1 i d (some (some (.ow, .dK ks xs))) f ev = sitD i ks xs d (f ev) ev := (rfl)
@[simp] theorem sitR1_dT {ks : List (List Key)} {xs : List D} : sitR1 i d (some (some (.ow, .dT ks xs))) f ev = sitT i ks xs d (f ev) ev := (rfl)
@[simp] theorem sitD_ok {ks : List Key} {xs : List D} {kd : D} : sitD i ks xs d (.ok k kd) ev = sitK i ks xs d (keyD kd) ev := (rfl)
@[simp] theorem sitT_ok {ks : List (List Key)} {xs : List D} {l : List D} : sitT i ks xs d (.ok k (.tup l)) ev = sitKT i ks xs d (keysD l) ev := (rfl)
@[simp] theorem keyD_int {x : Int} : keyD (.int x) = some (.inl x) := (rfl)
@[simp] theorem keyD_str {x : Str} : keyD (.str x) = some (.inr x) := (rfl)
@[simp] theorem keysD_nil : keysD [] = some [] := (rfl)
@[simp] theorem keysD_cons {l : List D} : keysD (d :: l) = (keyD d).bind fun k => (keysD l).map (k :: ·) := (rfl)
@[simp] theorem sitR2_int {ds : List D} {x : Int} : sitR2 i ds d (.ok k (.int x)) ev = sitR3 i ds d (ixN ds.length x) ev := (rfl)
@[simp] theorem sitR3_some {ds : List D} {j : Nat} : sitR3 i ds d (some j) ev = .nx (ev.set i (some (.ow, .lst (ds.set j d)))) := (rfl)
def clrR (i : Nat) (o : Option (Option (Kd × D))) (ev : Ev) : Fl := match o with
  | some (some (.ow, .lst _)) => .nx (ev.set i (some (.ow, .lst [])))
  | _ => .no
@[simp] theorem clearG_eq : clearG i ev = clrR i ev[i]? ev := (rfl)
@[simp] theorem clrR_ow {ds : List D} : clrR i (some (some (.ow, .lst ds))) ev = .nx (ev.set i (some (.ow, .lst []))) := (rfl)
def varO (o : Option (Option (Kd × D))) : R := match o with
  | some (some (.fz, d)) => .ok .fz d
  | some (some (.ow, d)) => .ok .bo d
  | _ => .no
@[simp] theorem varR_eq : varR i ev = varO ev[i]? := (rfl)
@[simp] theorem varO_fz : varO (some (some (.fz, d))) = .ok .fz d := (rfl)
@[simp] theorem varO_ow : varO (some (some (.ow, d))) = .ok .bo d := (rfl)
@[simp] theorem conR_eq : conR d ev = .ok .fz d := (rfl)
@[simp] theorem eOp_eq {g : G2} : eOp g f1 f2 ev = op2 g (f1 ev) (f2 ev) := (rfl)
@[simp] theorem op2_ok {g : G2} : op2 g (.ok k1 d1) (.ok k2 d2) = toR (g d1 d2) := (rfl)
@[simp] theorem toR_some : toR (some (k, d)) = .ok k d := (rfl)
@[simp] theorem eAnd_eq : eAnd f1 f2 ev = andR (f1 ev) (f2 ev) := (rfl)
@[simp] theorem eOr_eq : eOr f1 f2 ev = orR (f1 ev) (f2 ev) := (rfl)
@[simp] theorem eNot_eq : eNot f ev = notR (f ev) := (rfl)
@[simp] theorem andR_t {r : R} : andR (.ok k (.bl true)) r = r := (rfl)
@[simp] theorem andR_f {r : R} : andR (.ok k (.bl false)) r = .ok .fz (.bl false) := (rfl)
@[simp] theorem orR_t {r : R} : orR (.ok k (.bl true)) r = .ok .fz (.bl true) := (rfl)
@[simp] theorem orR_f {r : R} : orR (.ok k (.bl false)) r = r := (rfl)
@[simp] theorem andR_b {b c : Bool} : andR (.ok k (.bl b)) (.ok .fz (.bl c)) = .ok .fz (.bl (b && c)) := by cases b <;> rfl
@[simp] theorem orR_b {b c : Bool} : orR (.ok k (.bl b)) (.ok .fz (.bl c)) = .ok .fz (.bl (b || c)) := by cases b <;> rfl
@[simp] theorem notR_b {b : Bool} : notR (.ok k (.bl b)) = .ok .fz (.bl (!b)) := (rfl)
def ifE (r : R) (f1 f2 : Ev → R) (ev : Ev) : R := match r with
  | .ok _ (.bl b) => if b then f1 ev else f2 ev
  | .ex C => .ex C
  | _ => .no
@[simp] theorem eIf_eq : eIf c f1 f2 ev = ifE (c ev) f1 f2 ev := by
  show ifR (c ev) (f1 ev) (f2 ev) = ifE (c ev) f1 f2 ev
  generalize c ev = r
  cases r with
  | ok k d => cases d <;> rfl
  | ex C => rfl
  | no => rfl
@[simp] theorem ifE_t : ifE (.ok k (.bl true)) f1 f2 ev = f1 ev := (rfl)
@[simp] theorem ifE_f : ifE (.ok k (.bl false)) f1 f2 ev = f2 ev := (rfl)
@[simp] theorem aNil_eq : aNil ev = .ok [] := (rfl)
@[simp] theorem aCons_eq : aCons f fs ev = consA (f ev) (fs ev) := (rfl)
@[simp] theorem consA_fz {l : List (Kd × D)} : consA (.ok .fz d) (.ok l) = .ok ((.fz, d) :: l) := (rfl)
@[simp] theorem consA_ow {l : List (Kd × D)} : consA (.ok .ow d) (.ok l) = .ok ((.fz, d) :: l) := (rfl)
@[simp] theorem consA_bo {l : List (Kd × D)} : consA (.ok .bo d) (.ok l) = .ok ((.bo, d) :: l) := (rfl)
@[simp] theorem eTup_eq : eTup fs ev = tupR (fs ev) := (rfl)
@[simp] theorem eLst_eq : eLst fs ev = lstR (fs ev) := (rfl)
def tupO (o : Option (List D)) : R := match o with
  | some ds => if ds.length ≤ LIM then .ok .fz (.tup ds) else .no
  | none => .no
def lstO (o : Option (List D)) : R := match o with
  | some ds => if ds.length ≤ LIM then .ok .ow (.lst ds) else .no
  | none => .no
@[simp] theorem tupR_ok {l : List (Kd × D)} : tupR (.ok l) = tupO (allFz l) := (rfl)
@[simp] theorem lstR_ok {l : List (Kd × D)} : lstR (.ok l) = lstO (allFz l) := (rfl)
@[simp] theorem allFz_nil : allFz [] = some [] := (rfl)
@[simp] theorem allFz_cons {l : List (Kd × D)} : allFz ((.fz, d) :: l) = (allFz l).map (d :: ·) := (rfl)
@[simp] theorem allFz_bo {l : List (Kd × D)} : allFz ((.bo, d) :: l) = none := (rfl)
@[simp] theorem tupO_0 : tupO (some []) = .ok .fz (.tup []) := (rfl)
@[simp] theorem tupO_1 {a : D} : tupO (some [a]) = .ok .fz (.tup [a]) := (rfl)
@[simp] theorem tupO_2 {a b : D} : tupO (some [a, b]) = .ok .fz (.tup [a, b]) := (rfl)
@[simp] theorem tupO_3 {a b c : D} : tupO (some [a, b, c]) = .ok .fz (.tup [a, b, c]) := (rfl)
@[simp] theorem tupO_4 {a b c e : D} : tupO (some [a, b, c, e]) = .ok .fz (.tup [a, b, c, e]) := (rfl)
@[simp] theorem lstO_0 : lstO (some []) = .ok .ow (.lst []) := (rfl)
@[simp] theorem lstO_1 {a : D} : lstO (some [a]) = .ok .ow (.lst [a]) := (rfl)
@[simp] theorem lstO_2 {a b : D} : lstO (some [a, b]) = .ok .ow (.lst [a, b]) := (rfl)
@[simp] theorem lstO_3 {a b c : D} : lstO (some [a, b, c]) = .ok .ow (.lst [a, b, c]) := (rfl)
@[simp] theorem lstO_4 {a b c e : D} : lstO (some [a, b, c, e]) = .ok .ow (.lst [a, b, c, e]) := (rfl)
@[simp] theorem tupO_5 {a0 a1 a2 a3 a4 : D} : tupO (some [a0, a1, a2, a3, a4]) = .ok .fz (.tup [a0, a1, a2, a3, a4]) := (rfl)
@[simp] theorem lstO_5 {a0 a1 a2 a3 a4 : D} : lstO (some [a0, a1, a2, a3, a4]) = .ok .ow (.lst [a0, a1, a2, a3, a4]) := (rfl)
@[simp] theorem tupO_6 {a0 a1 a2 a3 a4 a5 : D} : tupO (some [a0, a1, a2, a3, a4, a5]) = .ok .fz (.tup [a0, a1, a2, a3, a4, a5]) := (rfl)
@[simp] theorem lstO_6 {a0 a1 a2 a3 a4 a5 : D} : lstO (some [a0, a1, a2, a3, a4, a5]) = .ok .ow (.lst [a0, a1, a2, a3, a4, a5]) := (rfl)
@[simp] theorem tupO_7 {a0 a1 a2 a3 a4 a5 a6 : D} : tupO (some [a0, a1, a2, a3, a4, a5, a6]) = .ok .fz (.tup [a0, a1, a2, a3, a4, a5, a6]) := (rfl)
@[simp] theorem lstO_7 {a0 a1 a2 a3 a4 a5 a6 : D} : lstO (some [a0, a1, a2, a3, a4, a5, a6]) = .ok .ow (.lst [a0, a1, a2, a3, a4, a5, a6]) := (rfl)
@[simp] theorem tupO_8 {a0 a1 a2 a3 a4 a5 a6 a7 : D} : tupO (some [a0, a1, a2, a3, a4, a5, a6, a7]) = .ok .fz (.tup [a0, a1, a2, a3, a4, a5, a6, a7]) := (rfl)
@[simp] theorem lstO_8 {a0 a1 a2 a3 a4 a5 a6 a7 : D} : lstO (some [a0, a1, a2, a3, a4, a5, a6, a7]) = .ok .ow (.lst [a0, a1, a2, a3, a4, a5, a6, a7]) := (rfl)
@[simp] theorem tupO_9 {a0 a1 a2 a3 a4 a5 a6 a7 a8 : D} : tupO (some [a0, a1, a2, a3, a4, a5, a6, a7, a8]) = .ok .fz (.tup [a0, a1, a2, a3, a4, a5, a6, a7, a8]) := (rfl)
@[simp] theorem lstO_9 {a0 a1 a2 a3 a4 a5 a6 a7 a8 : D} : lstO (some [a0, a1, a2, a3, a4, a5, a6, a7, a8]) = .ok .ow (.lst [a0, a1, a2, a3, a4, a5, a6, a7, a8]) := (rfl)
@[simp] theorem tupO_10 {a0 a1 a2 a3 a4 a5 a6 a7 a8 a9 : D} : tupO (some [a0, a1, a2, a3, a4, a5, a6, a7, a8, a9]) = .ok .fz (.tup [a0, a1, a2, a3, a4, a5, a6, a7, a8, a9]) := (rfl)
@[simp] theorem lstO_10 {a0 a1 a2 a3 a4 a5 a6 a7 a8 a9 : D} : lstO (some [a0, a1, a2, a3, a4, a5, a6, a7, a8, a9]) = .ok .ow (.lst [a0, a1, a2, a3, a4, a5, a6, a7, a8, a9]) := (rfl)
@[simp] theorem tupO_11 {a0 a1 a2 a3 a4 a5 a6 a7 a8 a9 a10 : D} : tupO (some [a0, a1, a2, a3, a4, a5, a6, a7, a8, a9, a10]) = .ok .fz (.tup [a0, a1, a2, a3, a4, a5, a6, a7, a8, a9, a10]) := (rfl)
@[simp] theorem lstO_11 {a0 a1 a2 a3 a4 a5 a6 a7 a8 a9 a10 : D} : lstO (some [a0, a1, a2, a3, a4, a5, a6, a7, a8, a9, a10]) = .ok .ow (.lst [a0, a1, a2, a3, a4, a5, a6, a7, a8, a9, a10]) := (rfl)
@[simp] theorem tupO_12 {a0 a1 a2 a3 a4 a5 a6 a7 a8 a9 a10 a11 : D} : tupO (some [a0, a1, a2, a3, a4, a5, a6, a7, a8, a9, a10, a11]) = .ok .fz (.tup [a0, a1, a2, a3, a4, a5, a6, a7, a8, a9, a10, a11]) := (rfl)
@[simp] theorem lstO_12 {a0 a1 a2 a3 a4 a5 a6 a7 a8 a9 a10 a11 : D} : lstO (some [a0, a1, a2, a3, a4, a5, a6, a7, a8, a9, a10, a11]) = .ok .ow (.lst [a0, a1, a2, a3, a4, a5, a6, a7, a8, a9, a10, a11]) := (rfl)
@[simp] theorem tupO_13 {a0 a1 a2 a3 a4 a5 a6 a7 a8 a9 a10 a11 a12 : D} : tupO (some [a0, a1, a2, a3, a4, a5, a6, a7, a8, a9, a10, a11, a12]) = .ok .fz (.tup [a0, a1, a2, a3, a4, a5, a6, a7, a8, a9, a10, a11, a12]) := (rfl)
@[simp] theorem lstO_13 {a0 a1 a2 a3 a4 a5 a6 a7 a8 a9 a10 a11 a12 : D} : lstO (some [a0, a1, a2, a3, a4, a5, a6, a7, a8, a9, a10, a11, a12]) = .ok .ow (.lst [a0, a1, a2, a3, a4, a5, a6, a7, a8, a9, a10, a11, a12]) := (rfl)
@[simp] theorem tupO_14 {a0 a1 a2 a3 a4 a5 a6 a7 a8 a9 a10 a11 a12 a13 : D} : tupO (some [a0, a1, a2, a3, a4, a5, a6, a7, a8, a9, a10, a11, a12, a13]) = .ok .fz (.tup [a0, a1, a2, a3, a4, a5, a6, a7, a8, a9, a10, a11, a12, a13]) := (rfl)
@[simp] theorem lstO_14 {a0 a1 a2 a3 a4 a5 a6 a7 a8 a9 a10 a11 a12 a13 : D} : lstO (some [a0, a1, a2, a3, a4, a5, a6, a7, a8, a9, a10, a11, a12, a13]) = .ok .ow (.lst [a0, a1, a2, a3, a4, a5, a6, a7, a8, a9, a10, a11, a12, a13]) := (rfl)
@[simp] theorem eCall_eq {g : GN} : eCall g fs ev = callR g (fs ev) := (rfl)
@[simp] theorem callR_ok {g : GN} {l : List (Kd × D)} : callR g (.ok l) = toR (g (l.map (·.2))) := (rfl)
def outK (r : R) : R := match r with
  | .ok .fz d => .ok .fz d
  | .ok .ow d => .ok .ow d
  | _ => .no
def outS (r : R) : R := match r with
  | .ok .bo _ => .no
  | .ok _ d => if scalD d then .ok .fz d else .no
  | _ => .no
def fnO (φ : List D → R) (o : Option (List D)) (l : List (Kd × D)) : R := match o with
  | some ds => outK (φ ds)
  | none => outS (φ (l.map (·.2)))
@[simp] theorem eFn_eq {φ : List D → R} : eFn n φ fs ev = fnR n φ (fs ev) := (rfl)
theorem fnR_ok {φ : List D → R} {l : List (Kd × D)} (h : l.length = n) : fnR n φ (.ok l) = fnO φ (allFz l) l := by
  simp only [fnR, if_pos h]
  unfold fnO outK outS
  cases allFz l <;> rfl
@[simp] theorem fnR_0 {φ : List D → R}  : fnR 0 φ (.ok []) = fnO φ (allFz []) [] := (fnR_ok rfl)
@[simp] theorem fnR_1 {φ : List D → R} {a : Kd × D} : fnR 1 φ (.ok [a]) = fnO φ (allFz [a]) [a] := (fnR_ok rfl)
@[simp] theorem fnR_2 {φ : List D → R} {a b : Kd × D} : fnR 2 φ (.ok [a, b]) = fnO φ (allFz [a, b]) [a, b] := (fnR_ok rfl)
@[simp] theorem fnR_3 {φ : List D → R} {a b c : Kd × D} : fnR 3 φ (.ok [a, b, c]) = fnO φ (allFz [a, b, c]) [a, b, c] := (fnR_ok rfl)
@[simp] theorem fnR_4 {φ : List D → R} {a b c u : Kd × D} : fnR 4 φ (.ok [a, b, c, u]) = fnO φ (allFz [a, b, c, u]) [a, b, c, u] := (fnR_ok rfl)
@[simp] theorem fnR_5 {φ : List D → R} {a b c u v : Kd × D} : fnR 5 φ (.ok [a, b, c, u, v]) = fnO φ (allFz [a, b, c, u, v]) [a, b, c, u, v] := (fnR_ok rfl)
@[simp] theorem fnR_6 {φ : List D → R} {a b c u v w : Kd × D} : fnR 6 φ (.ok [a, b, c, u, v, w]) = fnO φ (allFz [a, b, c, u, v, w]) [a, b, c, u, v, w] := (fnR_ok rfl)
@[simp] theorem fnR_7 {φ : List D → R} {a b c u v w x : Kd × D} : fnR 7 φ (.ok [a, b, c, u, v, w, x]) = fnO φ (allFz [a, b, c, u, v, w, x]) [a, b, c, u, v, w, x] := (fnR_ok rfl)
@[simp] theorem fnO_some {φ : List D → R} {ds : List D} {l : List (Kd × D)} : fnO φ (some ds) l = outK (φ ds) := (rfl)
@[simp] theorem fnO_none {φ : List D → R} {l : List (Kd × D)} : fnO φ none l = outS (φ (l.map (·.2))) := (rfl)
@[simp] theorem outK_fz : outK (.ok .fz d) = .ok .fz d := (rfl)
@[simp] theorem outK_ow : outK (.ok .ow d) = .ok .ow d := (rfl)
@[simp] theorem outS_bl {b : Bool} : outS (.ok .fz (.bl b)) = .ok .fz (.bl b) := (rfl)
@[simp] theorem outS_int {b : Int} : outS (.ok .fz (.int b)) = .ok .fz (.int b) := (rfl)
@[simp] theorem outS_non : outS (.ok .fz .non) = .ok .fz .non := (rfl)
def forO (r : RI) (b : B1) (body : Ev → Fl) (ev : Ev) : Fl := match r with
  | .ok ds => forE b body ds ev
  | .ex C => .ex C
  | .no => .no
@[simp] theorem forG_eq {fi : Ev → RI} {b : B1} : forG fi b body ev = forO (fi ev) b body ev := (rfl)
@[simp] theorem forO_ok {ds : List D} {b : B1} : forO (.ok ds) b body ev = forE b body ds ev := (rfl)
@[simp] theorem iLst_eq : iLst f ev = itR (f ev) := (rfl)
@[simp] theorem itR_fz {ds : List D} : itR (.ok .fz (.lst ds)) = .ok ds := (rfl)
@[simp] theorem itR_ow {ds : List D} : itR (.ok .ow (.lst ds)) = .ok ds := (rfl)
@[simp] theorem itR_scr {ds : List D} : itR (.ok .fz (.scr ds)) = .ok ds := (rfl)
@[simp] theorem iRange1_eq : iRange1 fs ev = rng1R (fs ev) := (rfl)
@[simp] theorem iRange2_eq : iRange2 fs ev = rng2R (fs ev) := (rfl)
@[simp] theorem rng1_eq {j : Int} (h : -4611686018427387904 ≤ j ∧ j < 4611686018427387904) : rng1R (.ok [(k, .int j)]) = .ok (rangeD 0 j.toNat) := (if_pos h)
@[simp] theorem rng2_eq {x j : Int} (h : -4611686018427387904 ≤ x ∧ x < 4611686018427387904 ∧ -4611686018427387904 ≤ j ∧ j < 4611686018427387904) : rng2R (.ok [(k, .int x), (k1, .int j)]) = .ok (rangeD x (j - x).toNat) := (if_pos h)
@[simp] theorem iRngW_eq : iRngW fs ev = rngW (fs ev) := (rfl)
@[simp] theorem rngW_eq {j : Int} (h : j < 4611686018427387904) : rngW (.ok [(k, .int j)]) = .ok (rangeD 0 j.toNat) := (if_pos h)
@[simp] theorem iZip2_eq : iZip2 fs ev = zipR (fs ev) := (rfl)
@[simp] theorem zipR_ok {xs ys : List D} : zipR (.ok [(.fz, .lst xs), (.fz, .lst ys)]) = .ok (List.zipWith (fun x y => .tup [x, y]) xs ys) := (rfl)
@[simp] theorem bName_eq : bName i d ev = some (ev.set i (some (.fz, d))) := (rfl)
@[simp] theorem bTup2 {c : BN} {x y : D} : bTup 2 c (.tup [x, y]) ev = c [x, y] ev := (rfl)
@[simp] theorem bTup3 {c : BN} {x y z : D} : bTup 3 c (.tup [x, y, z]) ev = c [x, y, z] ev := (rfl)
@[simp] theorem bTup4 {c : BN} {x y z u : D} : bTup 4 c (.tup [x, y, z, u]) ev = c [x, y, z, u] ev := (rfl)
@[simp] theorem bCons_eq {b : B1} {c : BN} {l : List D} : bCons b c (d :: l) ev = (b d ev).bind (c l) := (rfl)
@[simp] theorem bNil_eq : bNil [] ev = some ev := (rfl)
def compO (b : B1) (c e : Ev → R) (ev : Ev) (r : RI) : R := match r with
  | .ok ds => if ds.length < LIM then (match compE b c e ev ds with
    | some l => .ok .ow (.lst l)
    | none => .no) else .no
  | .ex C => .ex C
  | .no => .no
@[simp] theorem eComp_eq {cap : List (Option Nat)} {fi : Ev → RI} {b : B1} {c e : Ev → R} : eComp cap fi b c e ev = compO b c e (capE cap ev) (fi ev) := by unfold eComp compR compO; rfl
def cmpE1 (r : R) (tl : Option (List D)) : Option (List D) := match r with
        | .ok .bo _ => none
        | .ok _ x => tl.map (x :: ·)
        | _ => none
@[simp] theorem cmpE1_fz {tl : Option (List D)} : cmpE1 (.ok .fz d) tl = tl.map (d :: ·) := (rfl)
@[simp] theorem cmpE1_ow {tl : Option (List D)} : cmpE1 (.ok .ow d) tl = tl.map (d :: ·) := (rfl)
theorem compE_fm {b : B1} {c e : Ev → R} {α : Type} {enc : α → D} {p : α → Bool} {v : α → D} : ∀ {l : List α}, (∀ x ∈ l, ∃ ev1, b (enc x) ev = some ev1 ∧ (∃ k, c ev1 = .ok k (.bl (p x))) ∧ (p x = true → ∃ k, k ≠ Kd.bo ∧ e ev1 = .ok k (v x))) →
    compE b c e ev (l.map enc) = some ((l.filter p).map v)
  | [], _ => rfl
  | x :: l, hl => by
    obtain ⟨ev1, h1, ⟨k, h2⟩, h3⟩ := hl x (by simp)
    have ih := compE_fm (b := b) (c := c) (e := e) (enc := enc) (p := p) (v := v) (l := l) fun y hy => hl y (by simp [hy])
    rw [List.map_cons, compE]
    simp only [h1, h2]
    by_cases hp : p x = true
    · obtain ⟨k', hk, h4⟩ := h3 hp
      rw [if_pos hp, h4, List.filter_cons_of_pos hp, List.map_cons, ih]
      cases k' with
      | bo => exact absurd rfl hk
      | fz => rfl
      | ow => rfl
    · rw [if_neg hp, List.filter_cons_of_neg hp, ih]
theorem compO_fm {b : B1} {c e : Ev → R} {α : Type} {enc : α → D} {l : List α} (p : α → Bool) (v : α → D) (hn : l.length < LIM) (h : ∀ x ∈ l, ∃ ev1, b (enc x) ev = some ev1 ∧ (∃ k, c ev1 = .ok k (.bl (p x))) ∧ (p x = true → ∃ k, k ≠ Kd.bo ∧ e ev1 = .ok k (v x))) :
    compO b c e ev (.ok (l.map enc)) = .ok .ow (.lst ((l.filter p).map v)) := by
  simp only [compO]
  rw [compE_fm h]
  simp [hn]
@[simp] theorem capE_nil : capE [] ev = [] := (rfl)
@[simp] theorem capE_none {cap : List (Option Nat)} : capE (none :: cap) ev = none :: capE cap ev := (rfl)
def capO (o : Option (Option (Kd × D))) : Option (Kd × D) := match o.join with
  | some (.fz, d) => some (.fz, d)
  | _ => none
@[simp] theorem capE_some {cap : List (Option Nat)} {j : Nat} : capE (some j :: cap) ev = capO ev[j]? :: capE cap ev := (rfl)
@[simp] theorem capO_fz : capO (some (some (.fz, d))) = some (.fz, d) := (rfl)
def runO (r : Fl) : R := match r with
  | .rt .bo _ => .no
  | .rt k d => .ok k d
  | .nx _ => .ok .fz .non
  | .ex C => .ex C
  | _ => .no
theorem runF_eq {ds : List D} : runF n g ds = runO (g (ev0 n ds)) := rfl
@[simp] theorem runO_fz : runO (.rt .fz d) = .ok .fz d := (rfl)
@[simp] theorem runO_ow : runO (.rt .ow d) = .ok .ow d := (rfl)
@[simp] theorem runO_nx : runO (.nx e) = .ok .fz .non := (rfl)
@[simp] theorem runO_ex : runO (.ex C) = .ex C := (rfl)
@[simp] theorem addD_int {x y : Int} : addD (.int x) (.int y) = some (.fz, .int (x + y)) := (rfl)
@[simp] theorem addD_lst {x y : List D} : addD (.lst x) (.lst y) = if x.length + y.length ≤ LIM then some (.ow, .lst (x ++ y)) else none := (rfl)
@[simp] theorem addD_str {x y : Str} (h : x.length + y.length ≤ 1000000) : addD (.str x) (.str y) = some (.fz, .str (x ++ y)) := (if_pos h)
@[simp] theorem subD_int {x y : Int} : subD (.int x) (.int y) = some (.fz, .int (x - y)) := (rfl)
@[simp] theorem mulD_ok {x y : Int} (h : (-(2 ^ 64) < x ∧ x < 2 ^ 64) ∨ (-(2 ^ 64) < y ∧ y < 2 ^ 64)) : mulD (.int x) (.int y) = some (.fz, .int (x * y)) := by
  have : mulL (.int x) (.int y) = some (.fz, .int (x * y)) := if_pos h
  simp [mulD, this]
@[simp] theorem mulD_lst {x : List D} {y : Int} (h : -(2 ^ 63) ≤ y ∧ y < 2 ^ 63 ∧ x.length * y.toNat ≤ LIM) : mulD (.lst x) (.int y) = some (.ow, .lst (List.replicate y.toNat x).flatten) := by
  have : mulL (.lst x) (.int y) = some (.ow, .lst (List.replicate y.toNat x).flatten) := if_pos h
  simp [mulD, this]
@[simp] theorem mulD_str {x : Str} {y : Int} (h : 0 ≤ y ∧ y ≤ 1000 ∧ x.length ≤ 1000) : mulD (.str x) (.int y) = some (.fz, .str (Txt.mul x y)) := by
  have : mulS (.str x) (.int y) = some (.fz, .str (Txt.mul x y)) := if_pos h
  simp [mulD, this, mulL]
@[simp] theorem fdivD_ok {x y : Int} (h : 0 < y ∧ y < 2 ^ 200) : fdivD (.int x) (.int y) = some (.fz, .int (x / y)) := (if_pos h)
@[simp] theorem modD_ok {x y : Int} (h : 0 < y) : modD (.int x) (.int y) = some (.fz, .int (x % y)) := (if_pos h)
@[simp] theorem powD_ok {x y : Int} (h : 0 ≤ y ∧ y ≤ 1000000 ∧ x.natAbs < 2 ^ 64) : powD (.int x) (.int y) = some (.fz, .int (x ^ y.toNat)) := (if_pos h)
@[simp] theorem ltD_int {x y : Int} : ltD (.int x) (.int y) = some (.fz, .bl (decide (x < y))) := (rfl)
@[simp] theorem leD_int {x y : Int} : leD (.int x) (.int y) = some (.fz, .bl (decide (x ≤ y))) := (rfl)
@[simp] theorem gtD_int {x y : Int} : gtD (.int x) (.int y) = some (.fz, .bl (decide (y < x))) := (rfl)
@[simp] theorem geD_int {x y : Int} : geD (.int x) (.int y) = some (.fz, .bl (decide (y ≤ x))) := (rfl)
@[simp] theorem isND_nn : isND .non .non = some (.fz, .bl true) := (rfl)
@[simp] theorem isND_int {x : Int} : isND (.int x) .non = some (.fz, .bl false) := (rfl)
@[simp] theorem isND_tup {x : List D} : isND (.tup x) .non = some (.fz, .bl false) := (rfl)
@[simp] theorem isND_lst {x : List D} : isND (.lst x) .non = some (.fz, .bl false) := (rfl)
@[simp] theorem isND_str {x : Str} : isND (.str x) .non = some (.fz, .bl false) := (rfl)
@[simp] theorem notND_nn : notND .non .non = some (.fz, .bl false) := (rfl)
@[simp] theorem notND_int {x : Int} : notND (.int x) .non = some (.fz, .bl true) := (rfl)
@[simp] theorem notND_tup {x : List D} : notND (.tup x) .non = some (.fz, .bl true) := (rfl)
@[simp] theorem notND_lst {x : List D} : notND (.lst x) .non = some (.fz, .bl true) := (rfl)
@[simp] theorem notND_str {x : Str} : notND (.str x) .non = some (.fz, .bl true) := (rfl)
@[simp] theorem idxD_lst {x : List D} {j : Int} : idxD (.lst x) (.int j) = (atI x j).map fun d => (.fz, d) := by
  simp [idxD, getK, lookD, idxL]
@[simp] theorem idxD_scr {x : List D} {j : Int} : idxD (.scr x) (.int j) = (atI x j).map fun d => (.fz, d) := by
  simp [idxD, getK, lookD, idxL]
@[simp] theorem idxD_tup {x : List D} {j : Int} : idxD (.tup x) (.int j) = (atI x j).map fun d => (.fz, d) := by
  simp [idxD, getK, lookD, idxL]
@[simp] theorem idxD_dK {ks : List Key} {xs : List D} {y : Int} : idxD (.dK ks xs) (.int y) = (dGet ks xs (.inl y)).map fun d => (.fz, d) := by
  simp only [idxD, getK, lookD, idxL, keyD, Option.map_some, Option.or]
  cases dGet ks xs (.inl y) <;> rfl
@[simp] theorem idxD_dT {ks : List (List Key)} {xs l : List D} {q : List Key} (h : keysD l = some q) : idxD (.dT ks xs) (.tup l) = (dGet ks xs q).map fun d => (.fz, d) := by
  simp only [idxD, getK, lookD, idxL, h, Option.map_some, Option.or]
  cases dGet ks xs q <;> rfl
@[simp] theorem eUn_eq {g : G1} : eUn g f ev = un1 g (f ev) := (rfl)
@[simp] theorem un1_ok {g : G1} : un1 g (.ok k d) = toR (g d) := (rfl)
@[simp] theorem negD_int {x : Int} : negD (.int x) = some (.fz, .int (-x)) := (rfl)
@[simp] theorem eChain_eq {g g' : G2} {f3 : Ev → R} : eChain g g' f1 f2 f3 ev = chnR g g' (f1 ev) (f2 ev) (f3 ev) := (rfl)
def chn2 (g' : G2) (o : Option (Kd × D)) (r2 r3 : R) : R := match o with
  | some (_, .bl t) => if t then op2 g' r2 r3 else .ok .fz (.bl false)
  | _ => .no
@[simp] theorem chnR_ok {g g' : G2} {r3 : R} : chnR g g' (.ok k1 d1) (.ok k2 d2) r3 = chn2 g' (g d1 d2) (.ok k2 d2) r3 := (rfl)
@[simp] theorem chn2_t {g' : G2} {r2 r3 : R} : chn2 g' (some (k, .bl true)) r2 r3 = op2 g' r2 r3 := (rfl)
@[simp] theorem chn2_f {g' : G2} {r2 r3 : R} : chn2 g' (some (k, .bl false)) r2 r3 = .ok .fz (.bl false) := (rfl)
@[simp] theorem eChain3_eq {g g' g'' : G2} {f3 f4 : Ev → R} : eChain3 g g' g'' f1 f2 f3 f4 ev = chn3R g g' g'' (f1 ev) (f2 ev) (f3 ev) (f4 ev) := (rfl)
def chn3 (g' g'' : G2) (o : Option (Kd × D)) (r2 r3 r4 : R) : R := match o with
  | some (_, .bl t) => if t then chnR g' g'' r2 r3 r4 else .ok .fz (.bl false)
  | _ => .no
@[simp] theorem chn3R_ok {g g' g'' : G2} {r3 r4 : R} : chn3R g g' g'' (.ok k1 d1) (.ok k2 d2) r3 r4 = chn3 g' g'' (g d1 d2) (.ok k2 d2) r3 r4 := (rfl)
@[simp] theorem chn3_t {g' g'' : G2} {r2 r3 r4 : R} : chn3 g' g'' (some (k, .bl true)) r2 r3 r4 = chnR g' g'' r2 r3 r4 := (rfl)
@[simp] theorem chn3_f {g' g'' : G2} {r2 r3 r4 : R} : chn3 g' g'' (some (k, .bl false)) r2 r3 r4 = .ok .fz (.bl false) := (rfl)
@[simp] theorem eLenSet_eq : eLenSet f ev = lenSetR (f ev) := (rfl)
@[simp] theorem lenSetR_ok : lenSetR (.ok k d) = toR (lenSetD d) := (rfl)
theorem lenSetD_ok {xs : List D} {ks : List (List Key)} (h : keysL xs = some ks) (hl : xs.length < 4000) : lenSetD (.lst xs) = some (.fz, .int (ST.dd ks).length) := by
  simp only [lenSetD, h, if_pos hl]
@[simp] theorem eDisp1_eq : eDisp1 f1 f2 ev = dispR (f1 ev) (f2 ev) := (rfl)
@[simp] theorem dispR_int {x : Int} : dispR (.ok k (.int x)) (.ok .fz d) = .ok .ow (.dK [.inl x] [d]) := (rfl)
@[simp] theorem stepD_1 {xs : List D} : stepD (.lst xs) (.int 1) = some (.ow, .lst xs) := (rfl)
@[simp] theorem stepD_m {xs : List D} : stepD (.lst xs) (.int (-1)) = some (.ow, .lst xs.reverse) := (rfl)
@[simp] theorem eSl_eq {fl fh : Ev → RO} : eSl f fl fh ev = slR (f ev) (fl ev) (fh ev) := (rfl)
@[simp] theorem oNo_eq : oNo ev = .ok none := (rfl)
@[simp] theorem oSome_eq : oSome f ev = oS (f ev) := (rfl)
@[simp] theorem oS_int {x : Int} : oS (.ok k (.int x)) = .ok (some x) := (rfl)
@[simp] theorem slR_ok {l h : Option Int} : slR (.ok k d) (.ok l) (.ok h) = toR (slD d l h) := (rfl)
@[simp] theorem slD_lst {xs : List D} {l h : Option Int} : slD (.lst xs) l h = some (.ow, .lst (cutG xs l h)) := (rfl)
@[simp] theorem absD_int {x : Int} : absD [.int x] = some (.fz, .int (if x < 0 then -x else x)) := (rfl)
@[simp] theorem lenD_lst {x : List D} : lenD [.lst x] = some (.fz, .int x.length) := (rfl)
@[simp] theorem lenD_scr {x : List D} : lenD [.scr x] = some (.fz, .int x.length) := (rfl)
@[simp] theorem lenD_tup {x : List D} : lenD [.tup x] = some (.fz, .int x.length) := (rfl)
@[simp] theorem listD_lst {x : List D} : listD [.lst x] = some (.ow, .lst x) := (rfl)
@[simp] theorem listD_scr {x : List D} : listD [.scr x] = some (.ow, .lst x) := (rfl)
@[simp] theorem listD_tup {x : List D} : listD [.tup x] = some (.ow, .lst x) := (rfl)
@[simp] theorem min2_eq {x y : Int} : min2D [.int x, .int y] = some (.fz, .int (min x y)) := by
  show some (Kd.fz, D.int (if y < x then y else x)) = _
  congr 3; split <;> omega
@[simp] theorem max2_eq {x y : Int} : max2D [.int x, .int y] = some (.fz, .int (max x y)) := by
  show some (Kd.fz, D.int (if y > x then y else x)) = _
  congr 3; split <;> omega
end
section
variable {b : B1} {body : Ev → Fl}
theorem forE_by (Q : Fl → Prop) (I : List D → Ev → Prop) (step : ∀ d ds ev, I (d :: ds) ev → ∃ ev1, b d ev = some ev1 ∧ match body ev1 with
      | .nx e => I ds e
      | .ct e => I ds e
      | .bk e => Q (.nx e)
      | r => Q r) (fin : ∀ ev, I [] ev → Q (.nx ev)) : ∀ {ds : List D} {ev : Ev}, I ds ev → Q (forE b body ds ev)
  | [], ev, h => fin ev h
  | d :: ds, ev, h => by
    obtain ⟨ev1, e1, m⟩ := step d ds ev h
    rw [forE, e1]
    dsimp only
    cases q : body ev1 with
    | nx e => rw [q] at m; exact forE_by Q I step fin m
    | ct e => rw [q] at m; exact forE_by Q I step fin m
    | bk e => rw [q] at m; exact m
    | rt k d => rw [q] at m; exact m
    | ex C => rw [q] at m; exact m
    | no => rw [q] at m; exact m
end
theorem law_sp {K : PySem.W.Frag} {H : Hp} {a : Addr} {ns : List Int} {φ : List D → R} {E : XK} (hS : SqL K H a (ns.map V.int)) (h : φ [.scr (ns.map D.int)] = .ok .fz (.bl true)) : spV0 K φ 1 [.ref a] H (fun v _ => v = .bl true) E := by
  refine ⟨H, [.scr (ns.map D.int)], .refl _, .cons ?_ .nil, rfl, ?_⟩
  · rw [Rep]
    refine ⟨a, _, rfl, hS, ?_⟩
    clear hS h
    induction ns with
    | nil => exact .nil
    | cons x l ih => exact .cons (by rw [Rep]) ih
  · rw [h]
    refine ⟨by simp, fun F' v H' p => p.val.rd.bl⟩
end L3
set_option Elab.async false
set_option linter.all false
set_option maxRecDepth 100000
namespace L3
open PySem L2
mutual
/-- plain: no truths, no script; at most n deep -/
def pl : Nat → D → Bool
  | _, .non => true
  | _, .int _ => true
  | _, .str x => PyData.strOk x
  | n + 1, .tup xs => plL n xs
  | n + 1, .lst xs => plL n xs
  | _, _ => false
def plL : Nat → List D → Bool
  | _, [] => true
  | n, d :: ds => pl n d && plL n ds
end
theorem plL_iff {n : Nat} : ∀ {l : List D}, plL n l = true ↔ ∀ d ∈ l, pl n d = true
  | [] => by simp [plL]
  | d :: l => by simp [plL, plL_iff (l := l)]
mutual
theorem py_of : ∀ {n : Nat} {d : D}, pl n d = true → ∃ p, py d = some p ∧ p.depth ≤ n
  | _, .non, _ => ⟨.none, rfl, by simp [PyData.depth]⟩
  | _, .int i, _ => ⟨.int i, rfl, by simp [PyData.depth]⟩
  | _, .str x, h => ⟨.str x, by simp only [pl] at h; simp [py, h], by simp [PyData.depth]⟩
  | n + 1, .tup xs, h => by
    simp only [pl] at h
    obtain ⟨ps, e, hd⟩ := pyL_of h
    exact ⟨.tuple ps, by simp [py, e], by simp only [PyData.depth]; omega⟩
  | n + 1, .lst xs, h => by
    simp only [pl] at h
    obtain ⟨ps, e, hd⟩ := pyL_of h
    exact ⟨.list ps, by simp [py, e], by simp only [PyData.depth]; omega⟩
  | 0, .tup _, h => by simp [pl] at h
  | 0, .lst _, h => by simp [pl] at h
  | _, .bl _, h => by simp [pl] at h
  | _, .dK _ _, h => by simp [pl] at h
  | _, .dT _ _, h => by simp [pl] at h
  | _, .obj _ _ _, h => by simp [pl] at h
  | _, .scr _, h => by simp [pl] at h
  | _, .ty _, h => by simp [pl] at h
theorem pyL_of : ∀ {n : Nat} {l : List D}, plL n l = true → ∃ ps, pyL l = some ps ∧ PyData.depthAll ps ≤ n
  | n, [], _ => ⟨[], rfl, by simp [PyData.depthAll]⟩
  | n, d :: l, h => by
    simp only [plL, Bool.and_eq_true] at h
    obtain ⟨p, e1, h1⟩ := py_of h.1
    obtain ⟨ps, e2, h2⟩ := pyL_of h.2
    exact ⟨p :: ps, by simp [pyL, e1, e2], by simp only [PyData.depthAll]; omega⟩
end
inductive PlS : Nat → D → PyData → Prop
  | non {n} : PlS n .non .none
  | int {n} (i) : PlS n (.int i) (.int i)
  | str {n} (x) : PlS n (.str x) (.str x)
  | tup {n l p} (h : plL n l = true) (e : pyL l = some p) : PlS (n + 1) (.tup l) (.tuple p)
  | lst {n l p} (h : plL n l = true) (e : pyL l = some p) : PlS (n + 1) (.lst l) (.list p)
theorem pls_of {n : Nat} {a : D} {p : PyData} (h : pl n a = true) (e : py a = some p) : PlS n a p := by
  cases a with
  | non => cases e; exact .non
  | int i => cases e; exact .int i
  | str x => simp only [pl] at h; simp only [py, h, if_true] at e; cases e; exact .str x
  | tup l => cases n with
    | zero => simp [pl] at h
    | succ n =>
      simp only [py, Option.map_eq_some_iff] at e
      obtain ⟨ps, e1, rfl⟩ := e
      exact .tup h e1
  | lst l => cases n with
    | zero => simp [pl] at h
    | succ n =>
      simp only [py, Option.map_eq_some_iff] at e
      obtain ⟨ps, e1, rfl⟩ := e
      exact .lst h e1
  | _ => simp [pl] at h
mutual
theorem eqv_pl : ∀ {n m : Nat} {a b : D} {p q : PyData}, pl n a = true → pl m b = true → py a = some p → py b = some q → (p.eqv q = true ↔ a = b)
  | n, m, a, b, p, q, ha, hb, ea, eb => by
    have A := pls_of ha ea
    have B := pls_of hb eb
    clear ha hb ea eb
    cases A with
    | non => cases B <;> simp [PyData.eqv]
    | int => cases B <;> simp [PyData.eqv]
    | str => cases B <;> simp [PyData.eqv]
    | tup h e => cases B with
      | tup h2 e2 => simp only [PyData.eqv, eqv_plL h h2 e e2, D.tup.injEq]
      | _ => simp [PyData.eqv]
    | lst h e => cases B with
      | lst h2 e2 => simp only [PyData.eqv, eqv_plL h h2 e e2, D.lst.injEq]
      | _ => simp [PyData.eqv]
theorem eqv_plL : ∀ {n m : Nat} {a b : List D} {p q : List PyData}, plL n a = true → plL m b = true → pyL a = some p → pyL b = some q → (PyData.eqvAll p q = true ↔ a = b)
  | n, m, [], [], p, q, _, _, ea, eb => by cases ea; cases eb; simp [PyData.eqvAll]
  | n, m, [], y :: b, p, q, _, hb, ea, eb => by
    cases ea
    simp only [pyL] at eb
    cases e1 : py y with
    | none => rw [e1] at eb; cases eb
    | some u => rw [e1] at eb; cases e2 : pyL b with
      | none => rw [e2] at eb; cases eb
      | some us => rw [e2] at eb; cases eb; simp [PyData.eqvAll]
  | n, m, x :: a, [], p, q, ha, _, ea, eb => by
    cases eb
    simp only [pyL] at ea
    cases e1 : py x with
    | none => rw [e1] at ea; cases ea
    | some u => rw [e1] at ea; cases e2 : pyL a with
      | none => rw [e2] at ea; cases ea
      | some us => rw [e2] at ea; cases ea; simp [PyData.eqvAll]
  | n, m, x :: a, y :: b, p, q, ha, hb, ea, eb => by
    simp only [plL, Bool.and_eq_true] at ha hb
    obtain ⟨p1, e1, _⟩ := py_of ha.1
    obtain ⟨ps, e2, _⟩ := pyL_of ha.2
    obtain ⟨q1, e3, _⟩ := py_of hb.1
    obtain ⟨qs, e4, _⟩ := pyL_of hb.2
    simp only [pyL, e1, e2, Option.bind_some, Option.map_some, Option.some.injEq] at ea
    simp only [pyL, e3, e4, Option.bind_some, Option.map_some, Option.some.injEq] at eb
    subst ea; subst eb
    simp only [PyData.eqvAll, Bool.and_eq_true, eqv_pl ha.1 hb.1 e1 e3, eqv_plL ha.2 hb.2 e2 e4, List.cons.injEq]
end
noncomputable instance instDecD : DecidableEq D := fun a b => Classical.propDecidable (a = b)
theorem eqD_pl {a b : D} (ha : pl 60 a = true) (hb : pl 60 b = true) : eqD a b = some (.fz, .bl (decide (a = b))) := by
  obtain ⟨p, e1, h1⟩ := py_of ha
  obtain ⟨q, e2, _⟩ := py_of hb
  have h1' : p.depth ≤ DEEP := h1
  simp only [eqD, e1, e2, if_pos h1']
  congr 3
  rw [Bool.eq_iff_iff, eqv_pl ha hb e1 e2, decide_eq_true_iff]
theorem neD_pl {a b : D} (ha : pl 60 a = true) (hb : pl 60 b = true) : neD a b = some (.fz, .bl (decide (a ≠ b))) := by
  obtain ⟨p, e1, h1⟩ := py_of ha
  obtain ⟨q, e2, _⟩ := py_of hb
  have h1' : p.depth ≤ DEEP := h1
  simp only [neD, e1, e2, if_pos h1']
  congr 3
  rw [Bool.eq_iff_iff, decide_eq_true_iff, Bool.not_eq_true', ← Bool.not_eq_true, eqv_pl ha hb e1 e2]
theorem any_pl {n m : Nat} {a : D} {p : PyData} (ha : pl n a = true) (ea : py a = some p) : ∀ {l : List D} {qs : List PyData}, plL m l = true → pyL l = some qs → ((qs.any fun q => q.eqv p) = true ↔ a ∈ l)
  | [], _, _, e => by cases e; simp
  | d :: l, qs, h, e => by
    simp only [plL, Bool.and_eq_true] at h
    obtain ⟨q1, e3, _⟩ := py_of h.1
    obtain ⟨qs', e4, _⟩ := pyL_of h.2
    simp only [pyL, e3, e4, Option.bind_some, Option.map_some, Option.some.injEq] at e
    subst e
    rw [List.any_cons, Bool.or_eq_true, eqv_pl h.1 ha e3 ea, any_pl ha ea h.2 e4, List.mem_cons]
    exact or_congr eq_comm Iff.rfl
theorem notInD_pl {a b : D} {xs : List D} (hx : itemsD b = some xs) (ha : pl 60 a = true) (hb : plL 60 xs = true) : notInD a b = some (.fz, .bl (decide (a ∉ xs))) := by
  obtain ⟨p, e1, h1⟩ := py_of ha
  obtain ⟨qs, e2, _⟩ := pyL_of hb
  have h1' : p.depth ≤ DEEP := h1
  have : notInL a b = some (.fz, .bl (decide (a ∉ xs))) := by
    simp only [notInL, e1, hx, Option.bind_some, e2, if_pos h1']
    congr 3
    rw [Bool.eq_iff_iff, decide_eq_true_iff, Bool.not_eq_true', ← Bool.not_eq_true, any_pl ha e1 hb e2]
  simp [notInD, this]
@[simp] theorem inD_dK {ks : List Key} {xs : List D} {y : Int} : inD (.int y) (.dK ks xs) = some (.fz, .bl (dGet ks xs (.inl y)).isSome) := by
  simp [inD, inL, itemsD, hasK, lookD, keyD, py]
@[simp] theorem notInD_dK {ks : List Key} {xs : List D} {y : Int} : notInD (.int y) (.dK ks xs) = some (.fz, .bl !(dGet ks xs (.inl y)).isSome) := by
  simp [notInD, notInL, itemsD, hasNotK, lookD, keyD, py]
@[simp] theorem eqD_int {x y : Int} : eqD (.int x) (.int y) = some (.fz, .bl (decide (x = y))) := by
  rw [eqD_pl (by simp [pl]) (by simp [pl])]
  congr 3
  rw [Bool.eq_iff_iff, decide_eq_true_iff, decide_eq_true_iff]; simp
@[simp] theorem neD_int {x y : Int} : neD (.int x) (.int y) = some (.fz, .bl (decide (x ≠ y))) := by
  rw [neD_pl (by simp [pl]) (by simp [pl])]
  congr 3
  rw [Bool.eq_iff_iff, decide_eq_true_iff, decide_eq_true_iff]; simp
@[simp] theorem isi_int {x : Int} : isiD [.int x, .ty "int"] = some (.fz, .bl true) := (rfl)
@[simp] theorem isi_intb {x : Int} : isiD [.int x, .ty "bool"] = some (.fz, .bl false) := (rfl)
@[simp] theorem isi_lst {x : List D} : isiD [.lst x, .ty "list"] = some (.fz, .bl true) := (rfl)
@[simp] theorem isi_tup {x : List D} : isiD [.tup x, .ty "tuple"] = some (.fz, .bl true) := (rfl)
@[simp] theorem isi_bl {x : Bool} : isiD [.bl x, .ty "bool"] = some (.fz, .bl true) := (rfl)
@[simp] theorem isi_str {x : Str} : isiD [.str x, .ty "str"] = some (.fz, .bl true) := (rfl)
theorem atI_of {xs : List D} {i : Nat} {d : D} (h : xs[i]? = some d) : atI xs (i : Int) = some d := atI_nat h
@[simp] theorem atI_0 {d : D} {l : List D} : atI (d :: l) 0 = some d := atI_nat (j := 0) rfl
@[simp] theorem atI_1 {a d : D} {l : List D} : atI (a :: d :: l) 1 = some d := atI_nat (j := 1) rfl
@[simp] theorem atI_2 {a b d : D} {l : List D} : atI (a :: b :: d :: l) 2 = some d := atI_nat (j := 2) rfl
@[simp] theorem atI_3 {a b c d : D} {l : List D} : atI (a :: b :: c :: d :: l) 3 = some d := atI_nat (j := 3) rfl
end L3
set_option Elab.async false
set_option linter.all false
set_option maxRecDepth 100000
namespace L3
open PySem L2
def Wp (r : Fl) (Q : Fl → Prop) : Prop := Q r
section
variable {r : Fl} {Q : Fl → Prop} {ev e : Ev} {g h h' : Ev → Fl} {k : Kd} {d : D} {C : Addr} {b : B1} {body : Ev → Fl} {ds : List D}
@[simp] theorem bind_assoc : bindFl (bindFl r h) h' = bindFl r (seqG h h') := by cases r <;> rfl
@[simp] theorem bind_end : bindFl r .nx = r := by cases r <;> rfl
def loopQ (I : Ev → Prop) (h : Ev → Fl) (Q : Fl → Prop) : Fl → Prop
  | .nx e => I e
  | .ct e => I e
  | .bk e => Wp (h e) Q
  | r => Q r
@[simp] theorem loop_nx {I : Ev → Prop} : Wp (.nx e) (loopQ I h Q) = I e := (rfl)
@[simp] theorem loop_ct {I : Ev → Prop} : Wp (.ct e) (loopQ I h Q) = I e := (rfl)
@[simp] theorem loop_bk {I : Ev → Prop} : Wp (.bk e) (loopQ I h Q) = Wp (h e) Q := (rfl)
@[simp] theorem loop_rt {I : Ev → Prop} : Wp (.rt k d) (loopQ I h Q) = Wp (.rt k d) Q := (rfl)
@[simp] theorem loop_ex {I : Ev → Prop} : Wp (.ex C) (loopQ I h Q) = Wp (.ex C) Q := (rfl)
theorem wp_for (I : List D → Ev → Prop) (step : ∀ d ds ev, I (d :: ds) ev → ∃ ev1, b d ev = some ev1 ∧ Wp (body ev1) (loopQ (I ds) h Q)) (fin : ∀ ev, I [] ev → Wp (h ev) Q) (h0 : I ds ev) : Wp (bindFl (forE b body ds ev) h) Q := by
  refine forE_by (fun r => Wp (bindFl r h) Q) I (fun d ds ev hi => ?_) (fun ev hi => fin ev hi) h0
  obtain ⟨ev1, e1, m⟩ := step d ds ev hi
  refine ⟨ev1, e1, ?_⟩
  cases q : body ev1 <;> rw [q] at m <;> exact m
theorem wp_forM {β : Type} {enc : β → D} {l : List β} (I : List β → Ev → Prop) (step : ∀ x xs ev, (∃ pre, l = pre ++ x :: xs) → I (x :: xs) ev → ∃ ev1, b (enc x) ev = some ev1 ∧ Wp (body ev1) (loopQ (I xs) h Q)) (fin : ∀ ev, I [] ev → Wp (h ev) Q) (h0 : I l ev) : Wp (bindFl (forE b body (l.map enc) ev) h) Q := by
  refine wp_for (fun ds ev => ∃ xs, ds = xs.map enc ∧ (∃ pre, l = pre ++ xs) ∧ I xs ev) ?_ ?_ ⟨l, rfl, ⟨[], rfl⟩, h0⟩
  · rintro d ds ev ⟨xs, e, ⟨pre, hp⟩, hi⟩
    cases xs with
    | nil => simp at e
    | cons x xs =>
      simp at e
      obtain ⟨rfl, rfl⟩ := e
      obtain ⟨ev1, e1, w⟩ := step x xs ev ⟨pre, hp⟩ hi
      refine ⟨ev1, e1, ?_⟩
      revert w
      cases body ev1 with
      | nx e => exact fun w => ⟨xs, rfl, ⟨pre ++ [x], by simp [hp]⟩, w⟩
      | ct e => exact fun w => ⟨xs, rfl, ⟨pre ++ [x], by simp [hp]⟩, w⟩
      | _ => exact id
  · rintro ev ⟨xs, e, _, hi⟩
    cases xs with
    | nil => exact fin ev hi
    | cons x xs => simp at e
theorem wp_if {t : Bool} (h1 : t = true → Wp (bindFl (g ev) h') Q) (h2 : t = false → Wp (bindFl (h ev) h') Q) : Wp (bindFl (ifFl (.ok k (.bl t)) g h ev) h') Q := by
  cases t with
  | true => exact h1 rfl
  | false => exact h2 rfl
theorem wp_if1 {t : Bool} (h1 : t = true → Wp (g ev) Q) (h2 : t = false → Wp (h ev) Q) : Wp (ifFl (.ok k (.bl t)) g h ev) Q := by
  cases t with
  | true => exact h1 rfl
  | false => exact h2 rfl
theorem Wp.imp {Q' : Fl → Prop} (w : Wp r Q) (i : ∀ r, Q r → Q' r) : Wp r Q' := i _ w
def runQ (P : R → Prop) (r : Fl) : Prop := P (runO r)
@[simp] theorem run_fz {P : R → Prop} : Wp (.rt .fz d) (runQ P) = P (.ok .fz d) := (rfl)
@[simp] theorem run_ow {P : R → Prop} : Wp (.rt .ow d) (runQ P) = P (.ok .ow d) := (rfl)
@[simp] theorem run_nx {P : R → Prop} : Wp (.nx e) (runQ P) = P (.ok .fz .non) := (rfl)
@[simp] theorem run_ex {P : R → Prop} : Wp (.ex C) (runQ P) = P (.ex C) := (rfl)
@[elab_as_elim] theorem run_el {motive : R → Prop} (r : R) {n : Nat} (e : r = runF n g ds) (w : Wp (g (ev0 n ds)) (runQ motive)) : motive r := e ▸ w
def isR (k : Kd) (d : D) (r : R) : Prop := r = .ok k d
@[simp] theorem isR_eq {k' : Kd} {d' : D} : isR k d (.ok k' d') = (k' = k ∧ d' = d) := by simp [isR]
end
theorem compO_map {b : B1} {e : Ev → R} {ev : Ev} {α : Type} {enc : α → D} {l : List α} (v : α → D) (hn : l.length < LIM) (h : ∀ x ∈ l, ∃ ev1, b (enc x) ev = some ev1 ∧ ∃ k, k ≠ Kd.bo ∧ e ev1 = .ok k (v x)) :
    compO b (conR (.bl true)) e ev (.ok (l.map enc)) = .ok .ow (.lst (l.map v)) := by
  have := compO_fm (b := b) (c := conR (.bl true)) (e := e) (ev := ev) (enc := enc) (l := l) (fun _ => true) v hn fun x hx => by
    obtain ⟨ev1, h1, h2⟩ := h x hx
    exact ⟨ev1, h1, ⟨.fz, rfl⟩, fun _ => h2⟩
  rwa [List.filter_eq_self.2 (by simp)] at this
end L3
namespace L3
open PySem L2
section
variable {κ : Type} [DecidableEq κ]
end
theorem sIx_nat (n d k : Nat) : HT.sIx n d (some (k : Int)) = min k n := by
  show (if (k : Int) < 0 then ((k : Int) + (n : Int)).toNat else min (k : Int).toNat n) = _
  rw [if_neg (by omega)]; simp
theorem cut_from {α : Type} (xs : List α) (k : Nat) : cutG xs (some (k : Int)) none = xs.drop k := by
  unfold cutG
  rw [sIx_nat]
  show (xs.drop (min k xs.length)).take (xs.length - min k xs.length) = _
  by_cases h : k ≤ xs.length
  · rw [Nat.min_eq_left h, List.take_of_length_le (by simp)]
  · rw [Nat.min_eq_right (by omega), List.drop_of_length_le (by omega), List.drop_of_length_le (by omega)]; simp
theorem cut_upto {α : Type} (xs : List α) (k : Nat) : cutG xs none (some (k : Int)) = xs.take k := by
  unfold cutG
  rw [sIx_nat]
  show (xs.drop 0).take (min k xs.length - 0) = _
  by_cases h : k ≤ xs.length
  · rw [Nat.min_eq_left h]; simp
  · rw [Nat.min_eq_right (by omega), List.take_of_length_le (by simp), List.take_of_length_le (by omega)]; simp
@[simp] theorem eGet_eqs {f1 f2 f3 : Ev → R} {ev : Ev} : eGet f1 f2 f3 ev = getR (f1 ev) (f2 ev) (f3 ev) := (rfl)
@[simp] theorem getR_dK {k k' : Kd} {ks : List Key} {xs : List D} {y : Int} {c : D} : getR (.ok k (.dK ks xs)) (.ok k' (.int y)) (.ok .fz c) = .ok .fz ((dGet ks xs (.inl y)).getD c) := (rfl)
def findO (j : Nat) (c : Ev → R) (g : Ev → Fl) (o : Option (Option (Kd × D))) (ev : Ev) : Fl := match o with
  | some (some (.ow, .lst ds)) => findE j c g ds ev
  | _ => .no
@[simp] theorem findG_eqs {i j : Nat} {c : Ev → R} {g : Ev → Fl} {ev : Ev} : findG i j c g ev = findO j c g ev[i]? ev := (rfl)
@[simp] theorem findO_ow {j : Nat} {c : Ev → R} {g : Ev → Fl} {ds : List D} {ev : Ev} : findO j c g (some (some (.ow, .lst ds))) ev = findE j c g ds ev := (rfl)
end L3
set_option Elab.async false
set_option linter.all false
set_option maxRecDepth 100000
namespace L3
open PySem L2 TSrt
@[simp] theorem eSortK_eqs {φ : List D → R} {b : Bool} {f : Ev → R} {ev : Ev} : eSortK φ b f ev = sortKR φ b (f ev) := (rfl)
@[simp] theorem sortKR_lst {φ : List D → R} {b : Bool} {k : Kd} {ds : List D} : sortKR φ b (.ok k (.lst ds)) = sortKD φ b ds := (rfl)
@[simp] theorem eSortT_eqs {f : Ev → R} {ev : Ev} : eSortT f ev = sortTR (f ev) := (rfl)
@[simp] theorem sortTR_lst {k : Kd} {ds : List D} : sortTR (.ok k (.lst ds)) = sortTD ds := (rfl)
@[simp] theorem sortTR_scr {k : Kd} {ds : List D} : sortTR (.ok k (.scr ds)) = sortTD ds := (rfl)
def extO (i : Nat) (f : Ev → R) (o : Option (Option (Kd × D))) (ev : Ev) : Fl := match o with
  | some (some (.ow, .lst ds)) => extR i ds ev (f ev)
  | _ => .no
@[simp] theorem extG_eqs {i : Nat} {f : Ev → R} {ev : Ev} : extG i f ev = extO i f ev[i]? ev := (rfl)
@[simp] theorem extO_ow {i : Nat} {f : Ev → R} {ev : Ev} {ds : List D} : extO i f (some (some (.ow, .lst ds))) ev = extR i ds ev (f ev) := (rfl)
@[simp] theorem extR_ok {i : Nat} {ds es : List D} {ev : Ev} {k : Kd} : extR i ds ev (.ok k (.lst es)) = if ds.length + es.length < LIM then .nx (ev.set i (some (.ow, .lst (ds ++ es)))) else .no := (rfl)
@[simp] theorem isBD_bl {a b : Bool} : isBD (.bl a) (.bl b) = some (.fz, .bl (a == b)) := (rfl)
@[simp] theorem notBD_bl {a b : Bool} : notBD (.bl a) (.bl b) = some (.fz, .bl (!(a == b))) := (rfl)
def setUO (i j : Nat) (f : Ev → R) (o : Option (Option (Kd × D))) (ev : Ev) : Fl := match o with
  | some (some (.ow, .lst ds)) => setUR j ev (f (ev.set i (some (.fz, .lst ds))))
  | _ => .no
@[simp] theorem setUG_eqs {i j : Nat} {f : Ev → R} {ev : Ev} : setUG i j f ev = setUO i j f ev[i]? ev := (rfl)
@[simp] theorem setUO_ow {i j : Nat} {f : Ev → R} {ev : Ev} {ds : List D} : setUO i j f (some (some (.ow, .lst ds))) ev = setUR j ev (f (ev.set i (some (.fz, .lst ds)))) := (rfl)
@[simp] theorem setUR_ok {j : Nat} {ev : Ev} {es : List D} : setUR j ev (.ok .ow (.lst es)) = if flatL es = true then .nx (ev.set j (some (.ow, .lst es))) else .no := (rfl)
end L3
set_option Elab.async false
set_option linter.all false
set_option maxRecDepth 100000
namespace L3
open PySem L2
section
variable {ev : Ev} {f f1 f2 : Ev → R} {i j n : Nat} {d : D} {l : List D} {k : Kd} {C : Addr}
@[simp] theorem setNG_eq : setNG i f ev = setNR i ev (f ev) := (rfl)
@[simp] theorem setNR_tup : setNR i ev (.ok .fz (.tup l)) = if i < ev.length then .nx (ev.set i (some (.fz, .tup l))) else .no := (rfl)
def halfO (o : Option (Option (Kd × D))) (j : Nat) (r : Fl) : Fl := match o with
  | some (some (.fz, .tup l)) => match l[j]? with
    | some (.lst _) => r
    | _ => .no
  | _ => .no
@[simp] theorem halfG_eq : halfG i j ev = halfO ev[i]? j (.nx ev) := (rfl)
@[simp] theorem goneC_eq : goneC i j ev = halfO ev[i]? j (.nx (ev.set i none)) := (rfl)
def halfP (o : Option D) (r : Fl) : Fl := match o with
  | some (.lst _) => r
  | _ => .no
@[simp] theorem halfO_tup {r : Fl} : halfO (some (some (.fz, .tup l))) j r = halfP l[j]? r := (rfl)
@[simp] theorem halfP_lst {r : Fl} {xs : List D} : halfP (some (.lst xs)) r = r := (rfl)
def goneO (i : Nat) (o : Option (Option (Kd × D))) (j : Nat) (f : Ev → R) (ev : Ev) : Fl := match o with
  | some (some (.fz, .tup l)) => match l[j]? with
    | some (.lst ls) => if ls.length < LIM then dropG f (ev.set i none) else .no
    | _ => .no
  | _ => .no
@[simp] theorem goneA_eq : goneA i j f ev = goneO i ev[i]? j f ev := (rfl)
def goneP (i : Nat) (o : Option D) (f : Ev → R) (ev : Ev) : Fl := match o with
  | some (.lst ls) => if ls.length < LIM then dropG f (ev.set i none) else .no
  | _ => .no
@[simp] theorem goneO_tup : goneO i (some (some (.fz, .tup l))) j f ev = goneP i l[j]? f ev := (rfl)
@[simp] theorem goneP_lst {ls : List D} : goneP i (some (.lst ls)) f ev = if ls.length < LIM then dropG f (ev.set i none) else .no := (rfl)
@[simp] theorem iTupl_eq : iTupl f ev = itT (f ev) := (rfl)
@[simp] theorem itT_tup : itT (.ok .fz (.tup l)) = .ok l := (rfl)
@[simp] theorem eSlS_eq : eSlS f1 f2 ev = slSR (f1 ev) (f2 ev) := (rfl)
@[simp] theorem slSR_str {k2 : Kd} {x : Str} {y : Int} : slSR (.ok k (.str x)) (.ok k2 (.int y)) = if (cutS x y).length ≤ LIM then .ok .fz (.str (cutS x y)) else .no := (rfl)
@[simp] theorem eCnt_eq : eCnt f1 f2 ev = cntR (f1 ev) (f2 ev) := (rfl)
@[simp] theorem cntR_lst {r : R} : cntR (.ok k (.lst l)) r = cntR2 l r := (rfl)
@[simp] theorem cntR2_ok : cntR2 l (.ok k d) = toR (cntD l d) := (rfl)
end
end L3
set_option Elab.async false
set_option linter.all false
set_option maxRecDepth 100000
namespace L3
open PySem L2
section
variable {ev e : Ev} {f f1 f2 c : Ev → R} {fs ks : Ev → RA} {g h body : Ev → Fl} {k k1 k2 : Kd} {d d1 d2 : D} {C : Addr} {i n m : Nat}
end
end L3
set_option Elab.async false
set_option linter.all false
set_option maxRecDepth 100000
namespace L3
open PySem L2
section
variable {ev e : Ev} {f f1 f2 c : Ev → R} {fs ks : Ev → RA} {g h body : Ev → Fl} {k k1 k2 : Kd} {d d1 d2 : D} {C : Addr} {i j n m : Nat}
end
end L3
set_option linter.all false
namespace Net
abbrev Stp := Nat × Nat × Int
abbrev B := List (Option (Int × List Nat))
def at_ (b : B) (v : Nat) : Option (Int × List Nat) := (b[v]?).join
def val (b : B) (v : Nat) : Option Int := (at_ b v).map (·.1)
def start (n h : Nat) : B := (List.replicate n none).set h (some (0, [h]))
inductive W (steps : List Stp) (h : Nat) : List Nat → Int → Prop
  | one : W steps h [h] 0
  | more {s g : Nat} {p : List Nat} {t c : Int} : W steps h (s :: p) t → (s, g, c) ∈ steps → W steps h (g :: s :: p) (t + c)

section
variable {n h : Nat} {steps : List Stp} {b : B}
theorem W.cut (gd : ∀ x ∈ steps, 0 < x.2.2) {v : Nat} {p : List Nat} : ∀ {q : List Nat} {t : Int}, W steps h (q ++ v :: p) t → ∃ t', W steps h (v :: p) t' ∧ t' ≤ t
  | [], t, w => ⟨t, w, Int.le_refl _⟩
  | x :: q, t, w => by
    cases hq : q ++ v :: p with
    | nil => simp at hq
    | cons y r =>
      have w' : W steps h (x :: y :: r) t := by rw [← hq]; exact w
      cases w' with
      | more w2 hm =>
        rw [← hq] at w2
        obtain ⟨t', h1, h2⟩ := W.cut gd w2
        have := gd _ hm
        exact ⟨t', h1, by dsimp only at this; omega⟩
theorem W.bound (gd : ∀ x ∈ steps, x.2.1 < n) (hn : h < n) {p : List Nat} {t : Int} (w : W steps h p t) : ∀ x ∈ p, x < n := by
  induction w with
  | one => simpa using hn
  | more w hm ih =>
    intro x hx
    rcases List.mem_cons.mp hx with rfl | hx
    · exact gd _ hm
    · exact ih x hx

theorem val_some {v : Nat} {t : Int} (e : val b v = some t) : ∃ w, at_ b v = some (t, w) := by
  unfold val at e
  cases q : at_ b v with
  | none => rw [q] at e; cases e
  | some z => obtain ⟨t', w⟩ := z; rw [q] at e; simp at e; subst e; exact ⟨w, rfl⟩
end
end Net
set_option Elab.async false
set_option linter.all false
set_option maxRecDepth 100000
namespace L3
open PySem L2
def ExObj (o : Obj) (c : Value) : Prop := o.cls = c ∧ o.dict = none ∧ ∃ vs, o.data = .fields vs
def exO (a : Addr) (c : Value) : HO := .ext fun h => ∃ o, h.get? a = some o ∧ ExObj o c
def trO : HO := .ext fun _ => True
theorem exO_ok {P : Program} {w : World} {H : Hp} {h : Heap} {a : Addr} {c : Value} {o : Obj} (e : h.get? a = some o) (q : ExObj o c) : ObjOk P w H h a (exO a c) :=
  ⟨⟨o, e, q⟩, ⟨o, e⟩, fun _ _ ⟨o1, z1, z2⟩ k => ⟨o1, k o1 z1, z2⟩⟩
theorem trO_ok {P : Program} {w : World} {H : Hp} {h : Heap} {a : Addr} (e : ∃ o, h.get? a = some o) : ObjOk P w H h a trO := ⟨trivial, e, fun _ _ _ _ => trivial⟩
theorem obj_there {P : Program} {w : World} {H : Hp} {h : Heap} : ∀ {o : HO} {a : Addr}, ObjOk P w H h a o → ∃ u, h.get? a = some u := by
  intro o
  induction o with
  | lst xs => intro a x; obtain ⟨_, _, _, _, e⟩ := x; exact ⟨_, e⟩
  | tup xs => intro a x; obtain ⟨_, _, _, o, e, _⟩ := x; exact ⟨_, e⟩
  | dK kvs => intro a x; obtain ⟨_, _, _, _, o, _, _, e, _⟩ := x; exact ⟨_, e⟩
  | dT kvs => intro a x; obtain ⟨_, _, _, _, o, _, _, e, _⟩ := x; exact ⟨_, e⟩
  | set S n => intro a x; obtain ⟨o, _, _, _, e, _⟩ := x; exact ⟨_, e⟩
  | ins C dx fs => intro a x; obtain ⟨_, _, _, e, _⟩ := x; exact ⟨_, e⟩
  | own _ => intro a x; exact x
  | xd fs => intro a x; obtain ⟨_, ⟨o, _, _, e, _⟩, _⟩ := x; exact ⟨_, e⟩
  | rng lo hi => intro a x; obtain ⟨_, _, _, e⟩ := x; exact ⟨_, e⟩
  | frz o u _ => intro a x; exact ⟨_, x.1⟩
  | tbl ps => intro a x; exact ⟨_, x⟩
  | met f x => intro a x; exact ⟨_, x⟩
  | ext φ => intro a x; exact x.2.1
def Fut (H : Hp) (p : Hp → Prop) : Prop := ∀ H', (∀ F, Same F H → Step F H F H') → p H'
theorem Fut.now {H : Hp} {p : Hp → Prop} (h : Fut H p) : p H := h H fun _ s => .refl s
theorem Fut.later {H H1 : Hp} {p : Hp → Prop} (h : Fut H p) (s : ∀ F, Same F H → Step F H F H1) : Fut H1 p := fun H2 s2 => h H2 fun F q => (s F q).trans (s2 F (s F q).sub)
theorem step_upd {F H : Hp} {a : Addr} {o : HO} (s : Same F H) (n : H a = none) : Step F H F (upd H a o) := by
  have k : Same H (upd H a o) := fun b u e => by rw [upd_ne (ne_of_none e n)]; exact e
  exact ⟨.refl _, s.trans k, k, fun _ _ e => .inl e⟩
section
variable {X : Cx} {pins : List (Addr × Obj)} {σ : St} {H : Hp} {s : Shared} {a : Addr} {c : Value}
structure Turn (fs : List Addr) (a T : Addr) (h h' : Heap) : Prop where
  keep : ∀ b o, b ∉ fs → b ≠ a → b ≠ T → h.get? b = some o → h'.get? b = some o
  slot : ∀ b o, b ∈ fs → h.get? b = some o → (∀ vs, o.data ≠ .fields vs) → ∃ sl, h'.get? b = some { o with slots := sl }
theorem inv_turn {T T' : Addr} {h' : Heap} {H' : Hp} (I : Inv X pins σ H s) (t : Turn (frs X.stack) a T s.heap h') (ha : H a = some (exO a c)) (hT : T = a ∨ H T = some trO) (ea : ∃ o, h'.get? a = some o ∧ ExObj o c) (eT : ∃ o, h'.get? T = some o)
    (hH : H' = H ∨ (H' = upd H T' trO ∧ s.heap.get? T' = none ∧ ∃ o, h'.get? T' = some o)) : Inv X pins σ H' { s with heap := h' } := by
  have st := I.stack
  have nf : ∀ b, b ∈ frs X.stack → ∀ o, s.heap.get? b = some o → ∀ vs, o.data ≠ .fields vs := fun b hb o e => by
    obtain ⟨_, o', e', d⟩ := st.mem hb
    rw [e] at e'; cases e'; exact d
  have un : ∀ b, H b = none → b ≠ a ∧ b ≠ T := fun b n => by
    refine ⟨fun z => (by rw [z, ha] at n; cases n), fun z => ?_⟩
    rcases hT with q | q
    · rw [z, q, ha] at n; cases n
    · rw [z, q] at n; cases n
  have nT : ∀ b o, s.heap.get? b = some o → (H' = H ∨ (H' = upd H T' trO ∧ b ≠ T')) := fun b o e => by
    rcases hH with q | ⟨q, n, _⟩
    · exact .inl q
    · exact .inr ⟨q, fun z => by rw [z, n] at e; cases e⟩
  have same : Same H H' := fun b u e => by
    obtain ⟨o, eo⟩ := obj_there (I.hok b u e)
    rcases nT b o eo with q | ⟨q, ne⟩
    · rw [q]; exact e
    · rw [q, upd_ne ne]; exact e
  have any : ∀ b o, s.heap.get? b = some o → ∃ o', h'.get? b = some o' := fun b o e => by
    by_cases h1 : b ∈ frs X.stack
    · obtain ⟨sl, q⟩ := t.slot b o h1 e (nf b h1 o e); exact ⟨_, q⟩
    · by_cases h2 : b = a
      · rw [h2]; obtain ⟨o, q, _⟩ := ea; exact ⟨o, q⟩
      · by_cases h3 : b = T
        · rw [h3]; exact eT
        · exact ⟨o, t.keep b o h1 h2 h3 e⟩
  refine I.step (g' := s.gens) (t' := s.toks) (d' := s.drawn) (ch := []) (fun _ z => nomatch z) (fun b o hL hb _ e n => ?_) (fun b o hL hb _ e n => ?_) (fun b o _ e n => ?_) (fun b o _ e => any b o e) (fun b xs e => same _ _ e) (fun b o u e => same _ _ e) (fun b ps e => ⟨#[], by rw [same _ _ e]; simp⟩) (fun m hm => ?_) (fun b u e => ?_) I.bare
  · exact t.keep b o (fun z => (List.mem_cons.mp (I.stkSub b z)).elim hL hb) (un b n).1 (un b n).2 e
  · by_cases h1 : b ∈ frs X.stack
    · exact t.slot b o h1 e (nf b h1 o e)
    · exact ⟨o.slots, t.keep b o h1 (un b n).1 (un b n).2 e⟩
  · rcases nT b o e with q | ⟨q, ne⟩
    · rw [q]; exact n
    · rw [q, upd_ne ne]; exact n
  · obtain ⟨o, es, ep, ho, hd, r⟩ := hm
    by_cases h1 : X.env.locals ∈ frs X.stack
    · obtain ⟨sl, q⟩ := t.slot _ o h1 ho (nf _ h1 o ho)
      exact ⟨_, es, ep, q, hd, r⟩
    · exact ⟨o, es, ep, t.keep _ o h1 (un _ I.free).1 (un _ I.free).2 ho, hd, r⟩
  · have main : H b = some u → ObjOk X.prog X.w H' h' b u := fun e => by
      by_cases h2 : b = a
      · rw [h2, ha] at e; cases e
        obtain ⟨o, q1, q2⟩ := ea
        rw [h2]; exact exO_ok q1 q2
      · by_cases h3 : b = T
        · rcases hT with q | q
          · exact absurd (h3.trans q) h2
          · rw [h3, q] at e; cases e
            rw [h3]; exact trO_ok eT
        · refine (I.hok b u e).stay (fun y v hc q => ?_) (fun y q => same _ _ q) fun y xs q => same _ _ q
          have hy : ∃ z, H y = some z := by
            rcases hc with r | r
            · exact ⟨u, by rw [r]; exact e⟩
            · exact ⟨_, r⟩
          obtain ⟨z, hz⟩ := hy
          refine t.keep y v (fun r => ?_) (fun r => ?_) (fun r => ?_) q
          · rw [I.stkFree y r] at hz; cases hz
          · rcases hc with r1 | r1
            · exact h2 (r1.symm.trans r)
            · rw [r, ha] at r1; cases r1
          · rcases hc with r1 | r1
            · exact h3 (r1.symm.trans r)
            · rcases hT with q | q
              · rw [r, q, ha] at r1; cases r1
              · rw [r, q] at r1; cases r1
    rcases hH with q | ⟨q, n, eo⟩
    · rw [q] at e; exact main e
    · by_cases z : b = T'
      · rw [q, z, upd_same] at e; cases e
        rw [z]; exact trO_ok eo
      · rw [q, upd_ne z] at e; exact main e
def TrcA (fl : Value) (h : Heap) (H : Hp) (a : Addr) (c a0 : Value) : Prop :=
  ∃ oe vs T oT ts, h.get? a = some oe ∧ (oe.cls = c ∧ oe.dict = none) ∧ oe.data = .fields vs ∧ vs[0]? = some a0 ∧ vs[1]? = some (.ref T) ∧ T ≠ a ∧ h.get? T = some oT ∧ oT.data = .fields ts ∧ ts[3]? = some fl ∧ H T = some trO
structure Trc (h : Heap) (H : Hp) (a : Addr) (c : Value) : Prop where
  tr : H a = some (exO a c)
  ex : (∃ oe vs a0, h.get? a = some oe ∧ (oe.cls = c ∧ oe.dict = none) ∧ oe.data = .fields vs ∧ vs[0]? = some a0 ∧ vs[1]? = some .none) ∨ ∃ a0, TrcA .none h H a c a0
structure Entry (fs : List Addr) (L a : Addr) (oe : Obj) (h h' : Heap) : Prop where
  keep : ∀ b o, b ∉ fs → b ≠ a → h.get? b = some o → h'.get? b = some o
  slot : ∀ b o, b ∈ fs → h.get? b = some o → ∃ sl, h'.get? b = some { o with slots := sl }
  new : ∃ T oT ts, h.get? T = none ∧ T ≠ a ∧ h'.get? a = some (oe.mapFields (·.setIfInBounds 1 (.ref T))) ∧ h'.get? T = some oT ∧ oT.data = .fields ts ∧ ts[3]? = some (rawInt L)
theorem mapF {o : Obj} {vs : Array Value} {f : Array Value → Array Value} (d : o.data = .fields vs) : (o.mapFields f).data = .fields (f vs) ∧ (o.mapFields f).cls = o.cls ∧ (o.mapFields f).dict = o.dict := by
  refine ⟨Obj.data_mapFields d f, Obj.cls_mapFields _ _, ?_⟩
  obtain ⟨c0, d0, x0, s0⟩ := o
  cases x0 <;> rfl
theorem entry_ok {M : Model} {A : Around} {E : Value → Shared → Prop} {s : Shared} {base : Heap} {env : Env} {outer : List Env} {L a : Addr} {oe : Obj} {vs : Array Value} {head : Value} {nx : Bool} {Q : Unit → Shared → Prop} (w1 : A.frames = some (env :: outer)) (w2 : s.heap.FunFrames base (env :: outer)) (w3 : env.frame = some L)
    (w4 : s.heap.get? a = some oe) (w5 : oe.data = .fields vs) (w6 : 1 < vs.size) (h : ∀ h', Entry (frs (env :: outer)) L a oe s.heap h' → Q () { s with heap := h' }) :
    wpAny M A (do let f ← frameOf env; let pl ← entryPlaceOf L nx; let b ← EntryCells.newEntry head f .none (rawInt L) .none pl; setField (.ref a) 1 b) Q E s := by
  have na : a ∉ frs (env :: outer) := fun z => by
    obtain ⟨_, o, q1, q2⟩ := w2.mem z
    rw [w4] at q1; cases q1; exact q2 vs w5
  refine wpAny_bind (wpAny_frameOf_fun w1 w2 w3 fun g1 so => ?_)
  refine wpAny_bind (wpAny_entryPlaceOf fun pz hz => ?_)
  unfold EntryCells.newEntry; unfold newFields
  refine wpAny_bind (wpAny_newObj_type ?_ (hz.sizeOk5 _ _ _ _ _))
  have x1 : g1.get? a = some oe := (so.2.1 a na).trans w4
  have nT : g1.objs.size ≠ a := Nat.ne_of_gt (Heap.lt_size x1)
  refine wpAny_setField (Heap.get?_push_of_some _ x1) w5 w6 (h _ ⟨fun b o n1 n2 e => ?_, fun b o n1 e => ?_, g1.objs.size, _, _, ?_, nT, Heap.get?_update_self _ (Heap.get?_push_of_some _ x1) (Obj.isFreed_of_fields (Obj.data_mapFields w5 _)), (Heap.get?_update_other _ _ (Ne.symm nT)).trans (Heap.get?_push_size g1 rfl), rfl, ?_⟩)
  · rw [Heap.get?_update_other _ _ (Ne.symm n2)]
    exact Heap.get?_push_of_some _ ((so.2.1 b n1).trans e)
  · obtain ⟨sl, z⟩ := so.2.2 b o e
    refine ⟨sl, ?_⟩
    have nb : a ≠ b := fun q => na (by rw [q]; exact n1)
    rw [Heap.get?_update_other _ _ nb]
    exact Heap.get?_push_of_some _ z
  · exact Heap.get?_none_of_le (by rw [so.1]; exact Nat.le_refl _)
  · first | (simp; done) | (rcases hz with rfl | ⟨_, _, _, _, _, _, _, rfl⟩ <;> simp)
theorem laid_entry {T L : Addr} {h1 h' : Heap} {a0 : Value} {oe : Obj} {vs : Array Value} (I : Inv X pins σ H s) (ha : H a = some (exO a c)) (hT : T = a ∨ H T = some trO) (o1 : ∀ b o, b ≠ T → s.heap.get? b = some o → h1.get? b = some o) (oT : T ≠ a → ∃ o, h1.get? T = some o)
    (q1 : oe.cls = c ∧ oe.dict = none) (q2 : oe.data = .fields vs) (q3 : vs[0]? = some a0) (q4 : 1 < vs.size) (k : Entry (frs X.stack) L a oe h1 h') :
    ∃ H', Inv X pins σ H' { s with heap := h' } ∧ TrcA (rawInt L) h' H' a c a0 ∧ H' a = some (exO a c) ∧ ∀ F, Same F H → Step F H F H' := by
  obtain ⟨k1, k2, T', oT', ts, nw, hTe, he, hT', hdT, h3⟩ := k
  obtain ⟨m1, m2, m3⟩ := mapF (f := (·.setIfInBounds 1 (.ref T'))) q2
  have fT : T ∉ frs X.stack := fun z => by
    have n := I.stkFree T z
    rcases hT with q | q
    · rw [q, ha] at n; cases n
    · rw [q] at n; cases n
  have tn : Turn (frs X.stack) a T s.heap h' := ⟨fun b o n1 n2 n3 e => k1 b o n1 n2 (o1 b o n3 e), fun b o m e _ => k2 b o m (o1 b o (fun z => fT (z ▸ m)) e)⟩
  have eT : ∃ o, h'.get? T = some o := by
    by_cases z : T = a
    · rw [z]; exact ⟨_, he⟩
    · obtain ⟨o, eo⟩ := oT z
      exact ⟨o, k1 T o fT z eo⟩
  have new : s.heap.get? T' = none := by
    cases q : s.heap.get? T' with
    | none => rfl
    | some o =>
      exfalso
      by_cases z : T' = T
      · by_cases z2 : T = a
        · exact hTe (z.trans z2)
        · obtain ⟨o, eo⟩ := oT z2
          rw [z, eo] at nw; cases nw
      · rw [o1 T' o z q] at nw; cases nw
  have hn : H T' = none := by
    cases q : H T' with
    | none => rfl
    | some u =>
      obtain ⟨o, eo⟩ := obj_there (I.hok T' u q)
      rw [new] at eo; cases eo
  exact ⟨upd H T' trO, inv_turn I tn ha hT ⟨_, he, m2.trans q1.1, m3.trans q1.2, _, m1⟩ eT (.inr ⟨rfl, new, _, hT'⟩), ⟨_, _, T', oT', ts, he, ⟨m2.trans q1.1, m3.trans q1.2⟩, m1, by rw [Array.getElem?_setIfInBounds_ne (by decide)]; exact q3, by simp [q4], hTe, hT', hdT, h3, upd_same⟩, by rw [upd_ne (fun z => hTe z.symm)]; exact ha, fun F q => step_upd q hn⟩
def wrT (v : Value) (T : Addr) (h : Heap) : Heap := h.update T (Obj.mapFields (·.setIfInBounds 3 v))
theorem wrT_o {v : Value} {T b : Addr} {h : Heap} (n : b ≠ T) : (wrT v T h).get? b = h.get? b := Heap.get?_update_other _ _ (Ne.symm n)
theorem wrT_T {v : Value} {T : Addr} {h : Heap} {o : Obj} {ts : Array Value} (e : h.get? T = some o) (d : o.data = .fields ts) : ∃ o', (wrT v T h).get? T = some o' ∧ o'.data = .fields (ts.setIfInBounds 3 v) :=
  ⟨_, Heap.get?_update_self _ e (Obj.isFreed_of_fields (Obj.data_mapFields d _)), Obj.data_mapFields d _⟩
theorem land_ok {Q : Unit → Shared → Prop} {E : Value → Shared → Prop} {A : Around} {a0 fl : Value} (I : Inv X pins σ H s) (ta : H a = some (exO a c)) (t : TrcA fl s.heap H a c a0)
    (h : ∀ h', Inv X pins σ H { s with heap := h' } → TrcA .none h' H a c a0 → Q () { s with heap := h' }) : wpAny (model X.prog X.w) A (setFlight (.ref a) none) Q E s := by
  obtain ⟨oe, vs, T, oT, ts, e1, e2, e3, e4, e5, e6, e7, e8, e9, e10⟩ := t
  have sz := (Array.getElem?_eq_some_iff.mp e9).1
  obtain ⟨o', q1, q2⟩ := wrT_T (v := .none) e7 e8
  refine wpAny_setFlight_none e1 e3 e5 e7 e8 sz (h _ ?_ ⟨oe, vs, T, o', _, (wrT_o (Ne.symm e6)).trans e1, e2, e3, e4, e5, e6, q1, q2, by simp [sz], e10⟩)
  exact inv_turn (T := T) (T' := T) I ⟨fun b o _ _ n e => (wrT_o n).trans e, fun b o m e d => ⟨o.slots, (wrT_o (fun z => by rw [z, e7] at e; cases e; exact d _ e8)).trans e⟩⟩ ta (.inr e10) ⟨oe, (wrT_o (Ne.symm e6)).trans e1, e2.1, e2.2, _, e3⟩ ⟨_, q1⟩ (.inl rfl)
theorem note_ok {Q : Unit → Shared → Prop} {E : Value → Shared → Prop} (he : X.stack = X.env :: X.outer) (hf : X.env.frame = some X.env.locals) (I : Inv X pins σ H s) (t : Trc s.heap H a c)
    (h : ∀ h' H' a0, Inv X pins σ H' { s with heap := h' } → H' a = some (exO a c) → TrcA (rawInt X.env.locals) h' H' a c a0 → (∀ F, Same F H → Step F H F H') → Q () { s with heap := h' }) : wpAny (model X.prog X.w) X.A (noteFrame (.ref a) X.env) Q E s := by
  have fr := I.ok.frames
  have st := I.stack
  unfold noteFrame
  simp only [hf]
  rcases t.ex with ⟨oe, vs, a0, e1, e2, e3, e4, e5⟩ | ⟨a0, oe, vs, T, oT, ts, e1, e2, e3, e4, e5, e6, e7, e8, e9, e10⟩
  · have sz := (Array.getElem?_eq_some_iff.mp e5).1
    have le := fun h' => laid_entry (h' := h') (L := X.env.locals) (T := a) (h1 := s.heap) I t.tr (.inl rfl) (fun _ _ _ e => e) (fun z => absurd rfl z) e2 e3 e4 sz
    rw [he] at fr st le
    refine wpAny_bind (wpAny_field e1 e3 e5 ?_)
    rw [if_neg (by decide)]
    refine entry_ok fr st hf e1 e3 sz fun h' k => ?_
    obtain ⟨H', I', t', ta, sp⟩ := le _ k
    exact h h' H' a0 I' ta t' sp
  · have sz := (Array.getElem?_eq_some_iff.mp e5).1
    have fT : ∀ b o, s.heap.get? b = some o → (∀ vs, o.data ≠ .fields vs) → b ≠ T := fun b o e d z => by
      rw [z, e7] at e; cases e; exact d _ e8
    have st : (wrT .none T s.heap).FunFrames X.base X.stack := st.of_keeps fun b o e d => ⟨o, by rw [wrT_o (fT b o e d)]; exact e, rfl⟩
    have le := fun h' => laid_entry (h' := h') (L := X.env.locals) (T := T) (h1 := wrT .none T s.heap) I t.tr (.inr e10) (fun b o n e => by rw [wrT_o n]; exact e) (fun _ => let ⟨o', q, _⟩ := wrT_T e7 e8; ⟨o', q⟩) e2 e3 e4 sz
    rw [he] at fr st le
    refine wpAny_bind (wpAny_field e1 e3 e5 ?_)
    rw [if_pos (by simp)]
    refine wpAny_bind (wpAny_field e7 e8 e9 ?_)
    rw [if_neg (by simp [rawInt])]
    refine wpAny_bind (wpAny_setField e7 e8 (Array.getElem?_eq_some_iff.mp e9).1 ?_)
    refine entry_ok fr st hf ((wrT_o (Ne.symm e6)).trans e1) e3 sz fun h' k => ?_
    obtain ⟨H', I', t', ta, sp⟩ := le _ k
    exact h h' H' a0 I' ta t' sp
theorem leave_ok {Q : Unit → Shared → Prop} {E : Value → Shared → Prop} (he : X.stack = X.env :: X.outer) (hf : X.env.frame = some X.env.locals) (I : Inv X pins σ H s) (t : Trc s.heap H a c)
    (h : ∀ h' H', Inv X pins σ H' { s with heap := h' } → H' a = some (exO a c) → (∃ a0, TrcA .none h' H' a c a0) → (∀ F, Same F H → Step F H F H') → Q () { s with heap := h' }) : wpAny (model X.prog X.w) X.A (leaving X.env (.ref a)) Q E s := by
  unfold leaving
  exact wpAny_bind (note_ok he hf I t fun h' H' a0 I' ta t' sp => land_ok I' ta t' fun h'' I'' t'' => h h'' H' I'' ta ⟨a0, t''⟩ sp)
def CXe (P : Program) (w : World) : CXT := fun outer H s E e s' => ∃ a c H', e = .ref a ∧ s'.os = s.os ∧ PyProof.Rows.AllBare s'.gens ∧ Un (frs outer) [] H H' s.heap s'.heap ∧ HOk P w H' s'.heap ∧ H' a = some (exO a c) ∧ (∃ a0, TrcA .none s'.heap H' a c a0) ∧ E c none H'
def Raises (X : Cx) (Ψ : Value → Hp → Prop) : Prop := ∀ (pins : List (Addr × Obj)) (σ : St) (H : Hp) (s : Shared) (a : Addr) (c : Value), Inv X pins σ H s → Trc s.heap H a c → Fut H (Ψ c) → X.xe (.ref a) s
theorem passE {Ψ : Value → Hp → Prop} (r : Raises X Ψ) : Passes (CXe X.prog X.w) X (fun c _ H => Fut H (Ψ c)) := fun pins σ H s e s' I ⟨a, c, H', e1, e2, e3, e4, e5, e6, e8, e7⟩ => by
  subst e1
  exact r pins σ H' s' a c (I.call' (ch := []) e2 e4 e5 e3 fun b z => nomatch z) ⟨e6, .inr e8⟩ e7
theorem raises_def {P : Program} {w : World} {K : PySem.W.Frag} {mg : Str → Option Value} {base : Heap} {N : List Str} {qual : Str} {scope : Scope} {f : Addr} {cd : Value} {A : Around} {outer : List Env} {s0 : Shared} {H0 : Hp} {E : XK} :
    Raises (cxOf (CXe P w) P w K mg base N qual scope f cd A outer s0 H0 E) (fun c H => E c none H) := fun pins σ H s a c I t q => by
  show wpAny _ _ (leaving _ _) _ _ s
  refine leave_ok (X := cxOf (CXe P w) P w K mg base N qual scope f cd A outer s0 H0 E) rfl rfl I t fun h' H' I' ta t' sp => ?_
  exact ⟨a, c, H', rfl, I'.os, I'.bare, I'.base, I'.hok, ta, t', q H' sp⟩
end
end L3
set_option Elab.async false
set_option linter.all false
set_option maxRecDepth 100000
namespace L3
open PySem L2
def bmV : List Value := [.type "ValueError", .type "Exception", .type "BaseException", .type "object"]
def ExK (K : PySem.W.Frag) (C : Addr) : Prop := PySem.W.excIn K C bmV "ValueError.__new__" = true
structure ExA (h : Heap) (C : Addr) (bm : List Value) (N : Addr) (nm q : Str) (bs : List Value) (hd : Bool) (sn : List Str) (sub : List Value) (ab : Bool) (col : Option Bool) (dd : Option Addr) (k0 k1 k2 k3 k5 : Option Value) (mN : Str → Option Value) : Prop where
  obj : h.get? C = some (excClassObj nm q C N bs bm hd sn sub ab col dd k0 k1 k2 k3 k5 "ValueError.__new__")
  ns : h.Ns N mN
  ini : mN "__init__" = none
  tl : OwnTail h bmV bm
theorem exk_at {K : PySem.W.Frag} {h : Heap} {C : Addr} (X : K.In h) (e : ExK K C) : ∃ bm N nm q bs hd sn sub ab col dd k0 k1 k2 k3 k5 mN, ExA h C bm N nm q bs hd sn sub ab col dd k0 k1 k2 k3 k5 mN := by
  unfold ExK PySem.W.excIn at e
  split at e
  · rename_i d0 cd s0 l0
    split at e
    · rename_i c1 b1 y0 y1 y2 y3 n1 y5 m1 l1
      simp only [Bool.and_eq_true, beq_iff_eq, Bool.not_eq_true'] at e
      obtain ⟨⟨⟨⟨⟨z1, z2⟩, z3⟩, z4⟩, z5⟩, z6⟩ := e
      subst z1; subst z2
      obtain ⟨a1, a2, a3, a4, a5, a6, a7, a8, a9, b2, b3⟩ := cd
      dsimp only at m1 z3 z5 z6
      subst m1; subst z3
      obtain ⟨s1⟩ := s0
      simp only at l1
      subst l1
      exact ⟨b1, a4, a1, a5, a2, a6, a7, a8, a9, b2, d0, y0, y1, y2, y3, y5, _, X _ _ l0, .of_isNs (PySem.W.isNs_of_in X z5), PySem.W.nsMap_none_of_in X z5 z6, PySem.W.tail_of_in X z4⟩
    · cases e
  · cases e
section
variable {X : Cx} {pins : List (Addr × Obj)} {σ : St} {H : Hp} {s : Shared} {a : Addr} {c : Value}
theorem inv_exc {h' : Heap} {o : Obj} (I : Inv X pins σ H s) (k : ∀ b u, s.heap.get? b = some u → h'.get? b = some u) (n : s.heap.get? a = none) (e : h'.get? a = some o) (q : ExObj o c) : H a = none ∧ Inv X pins σ (upd H a (exO a c)) { s with heap := h' } := by
  have hn : H a = none := by
    cases z : H a with
    | none => rfl
    | some u =>
      obtain ⟨o', e'⟩ := obj_there (I.hok a u z)
      rw [n] at e'; cases e'
  have ne : ∀ b u, s.heap.get? b = some u → b ≠ a := fun b u e z => by rw [z, n] at e; cases e
  have sm : Same H (upd H a (exO a c)) := fun b u z => by rw [upd_ne (ne_of_none z hn)]; exact z
  refine ⟨hn, I.un (t' := s.toks) ⟨fun b u z _ _ _ => k b u z, fun b u z _ _ _ => ⟨u.slots, k b u z⟩, fun b u z m _ => by rw [upd_ne (ne b u z)]; exact m, fun b u z _ => ⟨u, k b u z⟩, fun b xs z => sm _ _ z, fun b u v z => sm _ _ z, fun b ps z => ⟨#[], by rw [sm _ _ z]; simp⟩⟩ fun b u z => ?_⟩
  by_cases y : b = a
  · rw [y, upd_same] at z; cases z
    rw [y]; exact exO_ok e q
  · rw [upd_ne y] at z
    exact (I.hok b u z).stay (fun y v _ w => k y v w) (fun y w => sm _ _ w) fun y xs w => sm _ _ w
theorem ps_raise {x : Str} {C : Addr} {np cpos pos : Pos} {e : Expr} {te : TE} {Ψ : Value → Hp → Prop} (r : Raises X Ψ) (q : ExK X.K C) (hm : X.mg x = some (.ref C)) (hh : X.A.handled = none) (he : PE X e te) (hg : Gl X x := by rfl) (hdb : (x == ("__debug__" : Str)) = false := by decide)
    (hs : starEach [e] X.env = (false, eval e X.env) :: starEach [] X.env := by rfl) :
    PS X (.Raise (some (.Call (.Name x np) [e] [] cpos)) none pos) (fun D σ H => te σ H fun x H1 => ([x] : List V).length ≤ 1 ∧ ∀ a, H1 a = none → Fut (upd H1 a (exO a (.ref C))) (Ψ (.ref C))) := by
  intro pins s σ H D I h
  obtain ⟨bm, N, nm, qn, bs, hd, sn, sub, ab, col, dd, k0, k1, k2, k3, k5, mN, z⟩ := exk_at I.ok.mod.kin q
  refine wpAny_Raise_call_subT (C := C) (nm := nm) (q := qn) (N := N) (bs := bs) (bm := bm) (hdct := hd) (sn := sn) (sub := sub) (ab := ab) (col := col) (dd := dd) (k0 := k0) (k1 := k1) (k2 := k2) (k3 := k3) (k5 := k5) PySem.F.excBase_ValueError (mN := mN) (z.tl.hasType (by decide)) hh (by rw [hs]; rfl) z.ini (ld_glob I hg hm ⟨rfl, ?_⟩ hdb)
  have ha := pa_cons he (pa_nil (X := X)) hs cpos pins s σ H (fun vs H1 => vs.length ≤ 1 ∧ ∀ a, H1 a = none → Fut (upd H1 a (exO a (.ref C))) (Ψ (.ref C))) I h
  rw [hs] at ha ⊢
  refine Calls.evalArgs_plain (wpAny_mono ha (fun us s2 h2 => ?_) fun _ _ y => y)
  obtain ⟨vs, H2, I2, rv, hl, q2⟩ := h2
  have kb := I2.bk
  refine ⟨rfl, by rw [← rv.length]; exact Nat.le_trans hl (by decide), kb _ _ z.obj, z.ns.keeps kb, z.tl.keeps kb, fun h' e' m => ?_⟩
  obtain ⟨t, w1, w2, w3⟩ := m.there
  obtain ⟨n1, I3⟩ := inv_exc (c := .ref C) I2 m.keeps m.new w1 ⟨rfl, rfl, _, rfl⟩
  exact r pins σ _ _ e' (.ref C) I3 ⟨upd_same, .inl ⟨_, _, .ref t, w1, ⟨rfl, rfl⟩, rfl, rfl, rfl⟩⟩ (q2 e' n1)
end
def PsiV (cls : Addr → Addr) (Ψ : Psi) : Value → Hp → Prop := fun c H => ∃ i, c = .ref (cls i) ∧ Ψ i H
def spX (K : PySem.W.Frag) (cls : Addr → Addr) (φ : List D → R) (n : Nat) : Sp := fun vs H Q E => ∃ F ds, Same F H ∧ Reps K F ds vs ∧ ds.length = n ∧ match φ ds with
  | .ok k d => k ≠ .bo ∧ ∀ F' v H', Post K F H k d F' v H' → Q v H'
  | .ex i => ∀ F' H', Step F H F' H' → E (.ref (cls i)) none H'
  | .no => False
structure CalleeX (P : Program) (w : World) (K : PySem.W.Frag) (mg : Str → Option Value) (base : Heap) (cls : Addr → Addr) (k : Nat) (x : Str) (n : Nat) (φ : List D → R) : Prop where
  ex : ∃ f fd ps, FnOk P w K mg base (CXe P w) k f fd ps (spX K cls φ n) ∧ Binds K fd ps [] ∧ mg x = some (.ref f) ∧ PySem.W.keepIn K (.ref f) = true
section
variable {X : Cx} {F0 H0 : Hp} {Ψ : Psi} {cls : Addr → Addr} {k n : Nat} {x : Str} {φ : List D → R} {p pos : Pos} {e : Expr} {es : List Expr} {fs : Ev → RA}
def rxF : R → R
  | .ok .fz d => .ok .fz d
  | .ok .ow d => .ok .ow d
  | .ex i => .ex i
  | _ => .no
def rxS : R → R
  | .ok .bo _ => .no
  | .ok _ d => if scalD d = true then .ok .fz d else .no
  | .ex i => .ex i
  | .no => .no
def rxO (φ : List D → R) (l : List (Kd × D)) : Option (List D) → R
  | some ds => rxF (φ ds)
  | none => rxS (φ (l.map (·.2)))
def fnRX (n : Nat) (φ : List D → R) : RA → R
  | .ok l => if l.length = n then rxO φ l (allFz l) else .no
  | .ex C => .ex C
  | .no => .no
def eFnX (n : Nat) (φ : List D → R) (fs : Ev → RA) (ev : Ev) : R := fnRX n φ (fs ev)
theorem px_fn {pins : List (Addr × Obj)} {σ : St} {H : Hp} {s : Shared} {Q : VK} (C : CalleeX X.prog X.w X.K X.mg X.base cls k x n φ) (hr : Room k X.A) (ha : VA X F0 H0 Ψ (e :: es) fs) (I : Inv X pins σ H s)
    (hx : ∀ H1 s1 y s', Inv X pins σ H1 s1 → CXe X.prog X.w X.stack H1 s1 (fun c _ H => Fut H (PsiV cls Ψ c)) y s' → X.xe y s') (h : tV X.K F0 H0 Ψ (eFnX n φ fs) σ H Q) (hg : Gl X x := by rfl) (hdb : (x == ("__debug__" : Str)) = false := by decide)
    (he : starEach (e :: es) X.env = (false, eval e X.env) :: starEach es X.env := by rfl) (hpl : (backTo pos (starEach es X.env)).any (·.1) = false := by rfl) :
    wpAny (model X.prog X.w) X.A (eval (.Call (.Name x p) (e :: es) [] pos) X.env) (EP X pins σ Q) X.xe s := by
  obtain ⟨f, fd, ps, Fk, hb, hm, hk⟩ := C.ex
  have rd : tVA X.K F0 H0 Ψ fs σ H (fun vs H1 => spX X.K cls φ n vs H1 Q (fun c _ H => Fut H (PsiV cls Ψ c))) := by
    obtain ⟨F, ev, fi, m⟩ := h
    refine ⟨F, ev, fi, ?_⟩
    unfold eFnX at m
    cases h1 : fs ev with
    | no => rw [h1] at m; exact m
    | ex C => rw [h1] at m; exact m
    | ok l =>
      rw [h1] at m
      intro F1 vs H1 s va
      simp only [fnRX] at m
      by_cases hn : l.length = n
      · rw [if_pos hn] at m
        cases h2 : allFz l with
        | some ds =>
          rw [h2] at m
          have rs := va.fz h2
          refine ⟨F1, ds, s.sub, rs, by rw [rs.length, ← va.length]; exact hn, ?_⟩
          cases h3 : φ ds with
          | no => simp only [rxO, h3] at m; exact m
          | ex i =>
            simp only [rxO, h3] at m
            exact fun F' H' st H2 sp => ⟨i, rfl, m F' H2 ((fi.st.trans s).trans (st.trans (sp F' st.sub)))⟩
          | ok k' d =>
            simp only [rxO, h3] at m
            cases k' with
            | bo => exact m.elim
            | fz => exact ⟨by simp, fun F' v H' p => m F' v H' ⟨s.trans p.st, p.val.early s.keep⟩⟩
            | ow => exact ⟨by simp, fun F' v H' p => m F' v H' ⟨s.trans p.st, p.val.early s.keep⟩⟩
        | none =>
          rw [h2] at m
          have rs := va.rds s.sub
          refine ⟨H1, l.map (·.2), .refl _, rs, by simpa using hn, ?_⟩
          cases h3 : φ (l.map (·.2)) with
          | no => simp only [rxO, h3] at m; exact m
          | ex i =>
            simp only [rxO, h3] at m
            exact fun F' H' st H2 sp => ⟨i, rfl, m F1 H2 ((fi.st.trans s).trans ⟨.refl _, s.sub.trans (st.keep.trans (sp F' st.sub).keep), st.keep.trans (sp F' st.sub).keep, fun a o e => .inl e⟩)⟩
          | ok k' d =>
            simp only [rxO, h3] at m
            have go : k' ≠ .bo → (match (if scalD d = true then R.ok .fz d else .no) with
              | .ok k d => ∀ F' v H', Post X.K F H k d F' v H' → Q v H'
              | .ex C => ∀ F' H', Step F0 H0 F' H' → Ψ C H'
              | .no => False) → k' ≠ .bo ∧ ∀ F' v H', Post X.K H1 H1 k' d F' v H' → Q v H' := fun nb m => by
              by_cases hs : scalD d = true
              · rw [if_pos hs] at m
                exact ⟨nb, fun F' v H' p => m F1 v H' ⟨s.trans ⟨.refl _, s.sub.trans p.st.keep, p.st.keep, fun a o e => .inl e⟩, scal_rep hs p.val.rd⟩⟩
              · rw [if_neg hs] at m; exact m.elim
            cases k' with
            | bo => exact m.elim
            | fz => exact go (by simp) m
            | ow => exact go (by simp) m
      · rw [if_neg hn] at m; exact m.elim
  refine wpAny_Call_Name_kw (ld_glob I hg hm ?_ hdb)
  refine PySem.W.callWith_K (h₀ := X.base) I.ok.mod.kin hk (thn (ha pos pins s σ H _ I rd) fun us s1 ⟨vs, H1, I1, r, q⟩ => ⟨I1.kIn, ?_⟩) he hpl
  have hl : us.length = ps.length := by rw [← r.length]; exact Fk.len _ _ _ _ q
  refine wpAny_call (codeAny_mono (Fk.run X.A X.stack s1 H1 ⟨us, []⟩ us vs Q _ hr I1.env0 (by have := hb s1 us I1.kIn (by simpa using hl); simpa using this) r q) fun r s' hq => ?_)
  cases r with
  | error e => exact hx H1 s1 e s' I1 hq
  | ok fl =>
    cases fl with
    | ret u => exact I1.after hq
    | next => exact False.elim hq
    | brk => exact False.elim hq
    | cont => exact False.elim hq
theorem v_fnX (r : Raises X (PsiV cls Ψ)) (C : CalleeX X.prog X.w X.K X.mg X.base cls k x n φ) (hr : Room k X.A) (ha : VA X F0 H0 Ψ (e :: es) fs) (hg : Gl X x := by rfl) (hdb : (x == ("__debug__" : Str)) = false := by decide)
    (he : starEach (e :: es) X.env = (false, eval e X.env) :: starEach es X.env := by rfl) (hpl : (backTo pos (starEach es X.env)).any (·.1) = false := by rfl) :
    VE X F0 H0 Ψ (.Call (.Name x p) (e :: es) [] pos) (eFnX n φ fs) := fun pins s σ H Q I h =>
  px_fn C hr ha I (fun H1 s1 y s' I1 q => passE r pins σ H1 s1 y s' I1 q) h hg hdb he hpl
def tM (K : PySem.W.Frag) (F0 H0 : Hp) (p : Ev → Bool) : TE := fun σ H Q => ∃ F ev, FI K F0 H0 F H ev σ ∧ p ev = true ∧ ∀ F' v H', Step F H F' H' → Q v H'
def VM (X : Cx) (F0 H0 : Hp) (e : Expr) (p : Ev → Bool) : Prop := PE X e (tM X.K F0 H0 p)
def raiseG (i : Addr) (p : Ev → Bool) (ev : Ev) : Fl := if p ev = true then .ex i else .no
theorem vs_raise {x : Str} {np cpos pos : Pos} {e : Expr} {q : Ev → Bool} (i : Addr) (r : Raises X (PsiV cls Ψ)) (hk : ExK X.K (cls i)) (hm : X.mg x = some (.ref (cls i))) (hh : X.A.handled = none) (he : VM X F0 H0 e q) (hg : Gl X x := by rfl) (hdb : (x == ("__debug__" : Str)) = false := by decide)
    (hs : starEach [e] X.env = (false, eval e X.env) :: starEach [] X.env := by rfl) : VS X F0 H0 Ψ (.Raise (some (.Call (.Name x np) [e] [] cpos)) none pos) (raiseG i q) :=
  (ps_raise r hk hm hh he hg hdb hs).mono fun D σ H ⟨F, ev, fi, m⟩ => by
    unfold raiseG at m
    by_cases c : q ev = true
    · rw [if_pos c] at m
      refine ⟨F, ev, fi, c, fun F' v H' st => ⟨by simp, fun a n H2 sp => ⟨i, rfl, ?_⟩⟩⟩
      have s2 := step_upd (o := exO a (.ref (cls i))) st.sub n
      exact m F' H2 (fi.st.trans (st.trans (s2.trans (sp F' s2.sub))))
    · rw [if_neg c] at m; exact m.elim
def JP (X : Cx) (F0 H0 : Hp) (es : List Expr) (p : Ev → Bool) (n : Nat) : Prop := ∀ (acc : Str) (pins : List (Addr × Obj)) (s : Shared) (σ : St) (H F : Hp) (ev : Ev) (Q : Value → Shared → Prop), Inv X pins σ H s → FI X.K F0 H0 F H ev σ → p ev = true → acc.length + n ≤ sizeLine →
  (∀ y t F' H' s', Step F H F' H' → Inv X pins σ H' s' → Q (.str y t) s') → wpAny (model X.prog X.w) X.A (joinParts acc (evalEach es X.env)) Q X.xe s
def VP (X : Cx) (F0 H0 : Hp) (e : Expr) (p : Ev → Bool) (n : Nat) : Prop := ∀ (pins : List (Addr × Obj)) (s : Shared) (σ : St) (H F : Hp) (ev : Ev), Inv X pins σ H s → FI X.K F0 H0 F H ev σ → p ev = true →
  wpAny (model X.prog X.w) X.A (eval e X.env) (fun v s' => ∃ y t F' H', v = .str y t ∧ y.length ≤ n ∧ Step F H F' H' ∧ Inv X pins σ H' s') X.xe s
theorem jp_nil : JP X F0 H0 [] (fun _ => true) 0 := fun acc pins s σ H F ev Q I fi _ hl h =>
  PyProof.Rows.joinParts_nil (h acc _ F H _ fi.refl (I.tok _)) (by omega)
theorem jp_cons {p q : Ev → Bool} {m l : Nat} (h1 : VP X F0 H0 e p m) (h2 : JP X F0 H0 es q l) : JP X F0 H0 (e :: es) (fun ev => p ev && q ev) (m + l) := fun acc pins s σ H F ev Q I fi hp hl h => by
  rw [Bool.and_eq_true] at hp
  refine PyProof.Rows.joinParts_cons (thn (h1 pins s σ H F ev I fi hp.1) fun v s1 ⟨y, t, F1, H1, e1, l1, st, I1⟩ => ?_)
  subst e1
  have ll : (acc ++ y).length = acc.length + y.length := strLen_append _ _
  exact ⟨by omega, h2 (acc ++ y) pins s1 σ H1 F1 ev Q I1 (fi.later st) hp.2 (by omega) fun y t F' H' s' st' I' => h y t F' H' s' (st.trans st') I'⟩
theorem vm_join {e2 : Expr} {p : Ev → Bool} {l : Nat} (h : JP X F0 H0 (e :: e2 :: es) p l) (hl : l ≤ sizeLine := by decide) : VM X F0 H0 (.JoinedStr (e :: e2 :: es) pos) p := fun pins s σ H Q I ⟨F, ev, fi, hp, q⟩ =>
  PyProof.Rows.JoinedStr_many (h Str.empty pins s σ H F ev _ I fi hp (by show 0 + l ≤ _; omega) fun y t F' H' s' st I' => ⟨.str y, H', I', ⟨t, rfl⟩, q F' _ H' st⟩)
theorem vp_str {x : Str} {kk} (n : Nat) (hx : x.length ≤ n := by decide) : VP X F0 H0 (.Constant (.str x) kk pos) (fun _ => true) n := fun pins s σ H F ev I fi _ =>
  thn (pe_str pins s σ H (fun v H' => v = .str x ∧ H' = H) I ⟨rfl, rfl⟩) fun u s' ⟨v, H', I', r, e1, e2⟩ => by
    subst e1; subst e2
    obtain ⟨t, rfl⟩ := (show ∃ t, u = Value.str x t from r)
    exact ⟨x, t, F, H', rfl, hx, fi.refl, I'⟩
def intOkR : R → Bool
  | .ok _ (.int i) => decide (i.natAbs.log2 < 1920)
  | _ => false
theorem vp_int {f : Ev → R} (hv : VE X F0 H0 Ψ e f) : VP X F0 H0 (.FormattedValue e (-1) none pos) (fun ev => intOkR (f ev)) 1921 := fun pins s σ H F ev I fi hp => by
  dsimp only at hp
  refine PyProof.Rows.FormattedValue_plain (thn (hv pins s σ H (fun v H' => ∃ i F', v = .int i ∧ i.natAbs.log2 < 1920 ∧ Step F H F' H') I ⟨F, ev, fi, ?_⟩) fun u s' ⟨v, H', I', r, i, F', e1, e2, st⟩ => ?_)
  · cases h1 : f ev with
    | no => rw [h1] at hp; cases hp
    | ex C => rw [h1] at hp; cases hp
    | ok k d =>
      rw [h1] at hp
      cases d with
      | int i => exact fun F' v H' p => ⟨i, F', p.val.rd.int, by simpa [intOkR] using hp, p.st⟩
      | _ => cases hp
  · subst e1
    obtain ⟨t, rfl⟩ := (show ∃ t, u = Value.int i t from r)
    refine PyProof.Rows.formatField_int_small e2 ⟨_, _, F', H', rfl, ?_, st, I'.tok _⟩
    have := int_text_length_le (a := i) (k := 1920) (by decide) e2
    show (Str.ofString (toString i)).length ≤ 1921
    rw [ofString_length]; omega
theorem tup_rd {K : PySem.W.Frag} {F H : Hp} {l : List D} {v : V} (s : Same F H) (h : RdV K F H (.tup l) v) : ∃ a, v = .ref a ∧ Rep K H (.tup l) v := by
  rcases h with h | ⟨a, e, c⟩
  · have h' := h.mono s
    rw [Rep] at h
    obtain ⟨a, vs, e, _⟩ := h
    exact ⟨a, e, h'⟩
  · exact c.elim
def shO : Option PyData → Bool
  | some p => p.showable && !p.hasDict && decide (p.shown.length ≤ 10000) && decide (p.depth ≤ 50)
  | none => false
theorem shO_t {o : Option PyData} (h : shO o = true) : ∃ p, o = some p ∧ p.showable = true ∧ p.hasDict = false ∧ p.shown.length ≤ 10000 ∧ p.depth ≤ 50 := by
  cases o with
  | none => cases h
  | some p =>
    simp only [shO, Bool.and_eq_true, decide_eq_true_eq, Bool.not_eq_true'] at h
    exact ⟨p, rfl, h.1.1.1, h.1.1.2, h.1.2, h.2⟩
def repOkR : R → Bool
  | .ok _ (.tup l) => shO (py (.tup l))
  | _ => false
theorem vp_rep {f : Ev → R} (hv : VE X F0 H0 Ψ e f) (hg : X.A.guards = some []) (hu : X.A.units + 64 < cLine) : VP X F0 H0 (.FormattedValue e 114 none pos) (fun ev => repOkR (f ev)) 10000 := fun pins s σ H F ev I fi hp => by
  dsimp only at hp
  refine wpAny_FormattedValue_repr (thn (hv pins s σ H (fun v H' => ∃ a l p F', v = .ref a ∧ py (.tup l) = some p ∧ p.showable = true ∧ p.hasDict = false ∧ p.shown.length ≤ 10000 ∧ p.depth ≤ 50 ∧ Rep X.K H' (.tup l) v ∧ Step F H F' H') I ⟨F, ev, fi, ?_⟩) fun u s' ⟨v, H', I', r, a, l, p, F', e1, e2, e3, e4, e5, e6, e7, st⟩ => ?_)
  · cases h1 : f ev with
    | no => rw [h1] at hp; cases hp
    | ex C => rw [h1] at hp; cases hp
    | ok k d =>
      rw [h1] at hp
      cases d with
      | tup l =>
        obtain ⟨p, z1, z2, z3, z4, z5⟩ := shO_t hp
        intro F' v H' q
        obtain ⟨a, z6, z7⟩ := tup_rd q.st.sub q.val.rd
        exact ⟨a, l, p, F', z6, z1, z2, z3, z4, z5, z7, q.st⟩
      | _ => cases hp
  · subst e1
    obtain rfl : u = Value.ref a := r
    obtain ⟨as, rd, _⟩ := e7.reads I' rfl e2
    refine pyReprObj_of_reads rd e3 (fun z => by rw [e4] at z; cases z) hg (by omega) (fun _ _ z => z) (fun h' t tk kp => ?_) (Nat.le_trans e5 (by decide))
    refine PyProof.Rows.formatField_str (fun t' tk' => ⟨_, _, F', H', rfl, e5, st, ?_⟩) (Nat.le_trans e5 (by decide))
    exact (I'.kept (t' := tk') kp)
end
section
variable {P : Program} {w : World} {K : PySem.W.Frag} {mg : Str → Option Value} {base : Heap} {cls : Addr → Addr}
theorem Raises.imp {X : Cx} {p q : Value → Hp → Prop} (r : Raises X p) (h : ∀ c H, q c H → p c H) : Raises X q := fun pins σ H s a c I t f => r pins σ H s a c I t fun H' sp => h _ _ (f H' sp)
theorem fn_okX {x qual : Str} {st : Stmt} {f : Addr} {fd : FuncData} {N ps : List Str} {k : Nat} {g : Ev → Fl} (F : Fun K x qual st f fd) (S : FnScope N ps (defScope st))
    (hb : ∀ (cdv : Value) (A : Around) (outer : List Env) (s : Shared) (H : Hp) (E : XK) (F0 : Hp), Room k (A.deeper (PyProof.Rows.envOfC qual (defScope st) s.heap.objs.size f cdv)) →
      Raises (cxOf (CXe P w) P w K mg base N qual (defScope st) f cdv A outer s H E) (PsiV cls fun i H' => E (.ref (cls i)) none H') →
      VSs (cxOf (CXe P w) P w K mg base N qual (defScope st) f cdv A outer s H E) F0 H (fun i H' => E (.ref (cls i)) none H') (defBody st) g) :
    FnOk P w K mg base (CXe P w) (k + 1) f fd ps (spX K cls (runF (N.length - ps.length) g) ps.length) := by
  obtain ⟨oc, od, kV, doc, pm, an, cdv, ct, osl, rfl, lk, hcd⟩ := F.ex
  refine fn_of lk hcd S (fun vs H Q E h => ?_) fun A outer s H vs Q E hr h => ?_
  · obtain ⟨F, ds, _, r, hl, _⟩ := h
    rw [← r.length]; exact hl
  · obtain ⟨F, ds, sub, r, hl, m⟩ := h
    refine ⟨_, hb cdv A outer s H E F hr (raises_def.imp fun c H ⟨i, e, q⟩ => by rw [e]; exact q), F, ev0 (N.length - ps.length) ds, by rw [← hl]; exact .start sub r, ?_⟩
    unfold runF at m
    cases q : g (ev0 (N.length - ps.length) ds) with
    | nx ev => rw [q] at m; exact fun F' H' σ' _ fi => m.2 F' .non H' ⟨fi.st, by rw [Val, Rep]⟩
    | rt k d =>
      rw [q] at m
      cases k with
      | bo => exact m.elim
      | fz => exact m.2
      | ow => exact m.2
    | bk ev => rw [q] at m; exact m.elim
    | ct ev => rw [q] at m; exact m.elim
    | ex C => rw [q] at m; exact m
    | no => rw [q] at m; exact m.elim
end
end L3
set_option Elab.async false
set_option linter.all false
set_option maxRecDepth 100000
namespace L3
open PySem L2
section
variable {X : Cx} {pins : List (Addr × Obj)} {σ : St} {H : Hp} {s : Shared}
theorem goes_ok {M : Model} {A : Around} {E : Value → Shared → Prop} {i : Nat} {n : Str} {pos : Pos} {Q : Unit → Shared → Prop} (I : Inv X pins σ H s) (hN : X.N.Nodup) (hi : X.N[i]? = some n) (hl : X.env.scope.names.lookup n = some .local)
    (h : ∀ s', Inv X pins (σ.set i none) H s' → Q () s') : wpAny M A (do bindName X.env n .none; unbindBehindTheSuite X.env n pos) Q E s := by
  obtain ⟨m, hn, hv⟩ := id I.loc
  obtain ⟨oL, _, _, hoL, _⟩ := id hn
  refine wpAny_nameGoes_keeps hl hn (by rw [I.ok.kind]; rfl) fun h' v hn' hs => h _ ?_
  have lt : ∀ b o, X.s₀.heap.get? b = some o → b ≠ X.env.locals := fun b o e => Nat.ne_of_lt (Nat.lt_of_lt_of_le (Heap.lt_size e) I.ok.above)
  have iσ : i < σ.length := by rw [I.len]; exact (List.getElem?_eq_some_iff.mp hi).1
  refine ⟨I.ok, I.os, I.bare, ⟨fun b o e z hb hx => (hs.2 b (lt b o e)).trans (I.base.keep b o e z hb hx), fun b o e z hb hx => ?_, I.base.free, fun b o e hx => ?_, I.base.tups, I.base.frzs, I.base.tbls⟩, ⟨_, hn', fun j y w e1 e2 e3 => ?_⟩, fun y c e => ?_, I.free, I.freeC, fun p hp => ?_, fun b u e => ?_, by simpa using I.len⟩
  · obtain ⟨sl, e1⟩ := I.base.slot b o e z hb hx
    exact ⟨sl, (hs.2 b (lt b o e)).trans e1⟩
  · obtain ⟨o', e1⟩ := I.base.there b o e hx
    exact ⟨o', (hs.2 b (lt b o e)).trans e1⟩
  · by_cases hj : j = i
    · rw [hj, List.getElem?_set_self iσ] at e2; cases e2
    · rw [List.getElem?_set_ne (Ne.symm hj)] at e2
      obtain ⟨u, r, q⟩ := hv j y w e1 e2 e3
      refine ⟨u, r, ?_⟩
      rcases q with ⟨k, e⟩ | ⟨k, c, e, z⟩
      · have : y ≠ n := fun q => hj (nodup_ix hN e1 (q ▸ hi))
        exact .inl ⟨k, by simp [this, e]⟩
      · exact .inr ⟨k, c, e, z.sameBut hs (I.cne y c e)⟩
  · obtain ⟨w, z⟩ := I.cell y c e
    exact ⟨w, z.sameBut hs (I.cne y c e)⟩
  · obtain ⟨e, z, ne, nf, d⟩ := I.pin p hp
    exact ⟨(hs.2 p.1 ne).trans e, z, ne, nf, d⟩
  · refine (I.hok b u e).stay (fun c w hc q => (hs.2 c ?_).trans q) (fun _ q => q) fun _ _ q => q
    intro z
    rcases hc with r | r
    · rw [← r, z, I.free] at e; cases e
    · rw [z, I.free] at r; cases r
abbrev mkX (X : Cx) (e : Value) (E : Value → Shared → Prop) : Cx := { X with A := X.A.mark (some e), calm := false, xe := E }
theorem inv_inH (I : Inv X pins σ H s) (e : Value) (E : Value → Shared → Prop) : Inv (mkX X e E) pins σ H s :=
  ⟨⟨I.ok.mod, I.ok.kind, I.ok.glob, I.ok.blt, I.ok.above, I.ok.inj, I.ok.has, I.ok.cab, fun z => (by cases z), I.ok.frames, I.ok.stk, I.ok.exf, I.ok.bs, I.ok.bsz, I.ok.noex, I.ok.exfs, I.ok.funs, I.ok.frf⟩, I.os, I.bare, I.base, I.loc, I.cell, I.free, I.freeC, I.pin, I.hok, I.len⟩
theorem inv_outH {e : Value} {E : Value → Shared → Prop} (ok : X.Ok) (I : Inv (mkX X e E) pins σ H s) : Inv X pins σ H s := ⟨ok, I.os, I.bare, I.base, I.loc, I.cell, I.free, I.freeC, I.pin, I.hok, I.len⟩
theorem handle_ok {i j : Nat} {a C HE : Addr} {a0 : Value} {n y kx : Str} {np kp vp apos pos : Pos} {rest : List ExceptHandler} {Q : Flow → Shared → Prop} {E : Value → Shared → Prop} (I : Inv X pins σ H s) (ta : H a = some (exO a (.ref C))) (t : TrcA .none s.heap H a (.ref C) a0)
    (hN : X.N.Nodup) (hi : X.N[i]? = some n) (hl : X.env.scope.names.lookup n = some .local) (hj : X.N[j]? = some kx) (hk : X.env.scope.names.lookup kx = some .local) (hg : Gl X y) (hm : X.mg y = some (.ref HE)) (he : PySem.W.exmOne X.K (.ref C) (.ref HE) = some true)
    (h : ∀ s', Inv X pins (((σ.set i (some (.ref a))).set j (some (.ref a))).set i none) H s' → Q .next s') (hdb : (y == ("__debug__" : Str)) = false := by decide) (hd2 : (n == ("__debug__" : Str)) = false := by decide) (hcd : (n == ("__classdict__" : Str)) = false := by decide)
    (hsw : ∀ E, swapsWith (.Name n vp) (some (.Name kx kp)) apos.line (mkX X (.ref a) E).env = pure false := by intro _; rfl) :
    wpAny (model X.prog X.w) X.A (handleBy (.ref a) X.env (.ExceptHandler (some (.Name y np)) (some n) [.Assign [.Name kx kp] (.Name n vp) apos] pos :: rest)) Q E s := by
  refine wpAny_handleBy_cons (codeAny_handlers_test ?_) (by intro q; cases q)
  refine ld_glob (X := mkX X (.ref a) (fun _ _ => True)) (inv_inH I _ _) hg hm ?_ hdb
  obtain ⟨oe, vs, T, oT, ts, e1, ⟨e2, _⟩, rt⟩ := id t
  have LT : PySem.W.Looks (model X.prog X.w) s.heap (typeOf (.ref a)) (.ref C) := by
    rw [← e2]; exact (PySem.W.Looks.ld e1).andThen .now
  refine (PySem.W.exm_one I.kIn LT he).here ?_
  refine codeAny_handlers_suite_as ?_
  refine land_ok I ta t fun h1 I1 t1 => ?_
  refine store_ok I1 hN hi (.inl hl) (v := .ref a) rfl (fun s2 I2 => ?_) (.inr hl)
  have iσ : i < σ.length := by rw [I.len]; exact (List.getElem?_eq_some_iff.mp hi).1
  refine wpAny_mono (pss_one (ps_set (X := mkX X (.ref a) fun _ _ => False) hN hj (.inl hk) (pe_var hi (.inl hl) hd2 hcd) (hsw _) (.inr hk)) pins s2 _ H { nx := fun σ' H' => σ' = (σ.set i (some (.ref a))).set j (some (.ref a)) ∧ H' = H, rt := fun _ _ => False } (inv_inH I2 _ _) ?_) (fun f s3 q => ?_) fun _ _ z => False.elim z
  · exact ⟨.ref a, List.getElem?_set_self iσ, rfl, rfl⟩
  · cases f with
    | next =>
      obtain ⟨σ', H', I3, z1, z2⟩ := q
      subst z1; subst z2
      exact goes_ok (inv_outH I.ok I3) hN hi hl fun s' I4 => h s' I4
    | brk => obtain ⟨_, _, _, q⟩ := q; exact q.elim
    | cont => obtain ⟨_, _, _, q⟩ := q; exact q.elim
    | ret u => obtain ⟨_, _, _, _, _, q⟩ := q; exact q.elim
theorem ps_try {F0 H0 : Hp} {cls : Addr → Addr} {k n i j : Nat} {HE : Addr} {x nn y kx : Str} {φ : List D → R} {p pos1 pos2 np kp vp apos hpos tpos : Pos} {e : Expr} {es : List Expr} {fs : Ev → RA} (hst : X.stack = X.env :: X.outer) (hfr : X.env.frame = some X.env.locals)
    (C : CalleeX X.prog X.w X.K X.mg X.base cls k x n φ) (hr : Room k X.A) (ha : ∀ E Ψ, VA (X.wish E) F0 H0 Ψ (e :: es) fs) (hN : X.N.Nodup) (hi : X.N[i]? = some nn) (hl : X.env.scope.names.lookup nn = some .local) (hj : X.N[j]? = some kx) (hk : X.env.scope.names.lookup kx = some .local)
    (hg : Gl X y) (hm : X.mg y = some (.ref HE)) (he : ∀ q, PySem.W.exmOne X.K (.ref (cls q)) (.ref HE) = some true) (hgx : Gl X x := by rfl) (hdx : (x == ("__debug__" : Str)) = false := by decide)
    (hse : starEach (e :: es) X.env = (false, eval e X.env) :: starEach es X.env := by rfl) (hpl : (backTo pos1 (starEach es X.env)).any (·.1) = false := by rfl) (hsx : swapsWith (.Call (.Name x p) (e :: es) [] pos1) none pos2.line X.env = pure false := by rfl)
    (hdb : (y == ("__debug__" : Str)) = false := by decide) (hd2 : (nn == ("__debug__" : Str)) = false := by decide) (hcd : (nn == ("__classdict__" : Str)) = false := by decide) (hsw : swapsWith (.Name nn vp) (some (.Name kx kp)) apos.line X.env = pure false := by rfl) :
    PS X (.Try [.Expr (.Call (.Name x p) (e :: es) [] pos1) pos2] [.ExceptHandler (some (.Name y np)) (some nn) [.Assign [.Name kx kp] (.Name nn vp) apos] hpos] [] [] tpos) (fun D σ H => ∃ F ev, FI X.K F0 H0 F H ev σ ∧ match eFnX n φ fs ev with
      | .ok _ _ => ∀ F' H', Step F H F' H' → D.nx σ H'
      | .ex q => ∀ F' H' a, Step F0 H0 F' H' → H' a = some (exO a (.ref (cls q))) → D.nx (((σ.set i (some (.ref a))).set j (some (.ref a))).set i none) H'
      | .no => False) := by
  intro pins s σ H D I ⟨F, ev, fi, m⟩
  have key : ∀ Ex : Value → Shared → Prop, (∀ H1 s1 y s', Inv (X.wish Ex) pins σ H1 s1 → CXe X.prog X.w X.stack H1 s1 (fun c _ H => Fut H (PsiV cls (fun q H' => ∀ a, H' a = some (exO a (.ref (cls q))) → D.nx (((σ.set i (some (.ref a))).set j (some (.ref a))).set i none) H') c)) y s' → Ex y s') →
      wpAny (model X.prog X.w) X.A (eval (.Call (.Name x p) (e :: es) [] pos1) X.env) (EP (X.wish Ex) pins σ fun _ H' => D.nx σ H') Ex s := fun Ex hx => by
    refine px_fn (X := X.wish Ex) (Q := fun _ H' => D.nx σ H') (Ψ := fun q H' => ∀ a, H' a = some (exO a (.ref (cls q))) → D.nx (((σ.set i (some (.ref a))).set j (some (.ref a))).set i none) H') C hr (ha _ _) (I.wish _) hx ⟨F, ev, fi, ?_⟩ hgx hdx hse hpl
    cases h1 : eFnX n φ fs ev with
    | no => rw [h1] at m; exact m
    | ex q => rw [h1] at m; exact fun F' H' st a ea => m F' H' a st ea
    | ok k d => rw [h1] at m; exact fun F' v H' p => m F' H' p.st
  refine wpAny_Try_except (wpAny_execs_cons (thn (wpAny_Expr_any (Q := SP X pins D) (thn (key _ ?_) fun v s1 z => ?_) I.quiet hsx) fun f s1 q => ?_))
  · rintro H1 s1 y s' I1 ⟨a, c, H', e1, e2, e3, e4, e5, e6, ⟨a0, e8⟩, e7⟩
    subst e1
    have I' : Inv X pins σ H' s' := I1.unwish.call' (ch := []) e2 e4 e5 e3 fun b z => nomatch z
    obtain ⟨q, z, _⟩ := e7.now
    subst z
    refine note_ok hst hfr I' ⟨e6, .inr ⟨a0, e8⟩⟩ fun h2 H2 a1 I2 ta2 t2 sp => ?_
    refine land_ok I2 ta2 t2 fun h3 I3 t3 => ?_
    refine handle_ok I3 ta2 t3 hN hi hl hj hk hg hm (he q) (fun s5 I5 => ?_) hdb hd2 hcd fun _ => hsw
    obtain ⟨q', z, h7⟩ := e7 H2 sp
    exact ⟨_, H2, I5, h7 a (by rw [← z]; exact ta2)⟩
  · obtain ⟨x, H1, I1, r1, q1⟩ := z
    exact ⟨σ, H1, I1.unwish, q1⟩
  · cases f with
    | next => exact wpAny_execs_nil (wpAny_execs_nil q)
    | ret v => exact q
    | brk => exact q
    | cont => exact q
end
end L3
set_option Elab.async false
set_option linter.all false
set_option maxRecDepth 100000
namespace L3
open PySem L2
structure ExcC (K : PySem.W.Frag) (C : Addr) : Prop where
  hc : (PySem.W.clsIn K C).isSome = true
  ga : PySem.W.findIn K (.ref C) "__getattribute__" = some (some (.builtin "BaseException.__getattribute__"))
  gt : PySem.W.findIn K (.ref C) "__getattr__" = some none
  be : PySem.W.mroIn K C (.type "BaseException") = some true
  ob : PySem.W.mroIn K C (.type "object") = some true
  ha : PySem.W.findIn K (.ref C) "__class__" = some (some (.builtin "object.__class__"))
  hn : PySem.W.specialIn K (.builtin "object.__class__") "__get__" = some (some (.builtin "getset_descriptor.__get__"))
  htk : PySem.W.takesIn K (.builtin "object.__class__") = some true
theorem exc_inst {h : Heap} {a C : Addr} {o : Obj} (e : h.get? a = some o) (x : ExObj o (.ref C)) : PySem.W.InstAt h a o C none := by
  obtain ⟨x1, x2, vs, x3⟩ := x
  refine ⟨e, x1, by unfold PySem.W.notCls; rw [x3], ?_⟩
  rw [x2]; trivial
section
variable {prog : Program} {w : World} {A : Around} {E : Value → Shared → Prop} {K : PySem.W.Frag} {a C : Addr} {o : Obj}
theorem exc_check {M : Model} {v : Value} {Q : Unit → Shared → Prop} {s : Shared} (X : K.In s.heap) (I : PySem.W.InstAt s.heap a o C none) (c : ExcC K C) (q : Q () s) : wpAny M A (checkBuiltinCall "BaseException.__getattribute__" ⟨[.ref a, v], []⟩) Q E s := by
  obtain ⟨h0, g0, d0, t0, o0⟩ := s
  have y1 : builtinKind "BaseException.__getattribute__" = some .slot := by decide +kernel
  have y2 : splitId "BaseException.__getattribute__" = some ("BaseException", "__getattribute__") := by decide +kernel
  have y3 := F.args_bexc_ga (.ref a) v
  have L0 := I.type (M := M)
  have L1 := PySem.W.looks_mroIn (M := M) X c.be
  simp only [checkBuiltinCall, y1, y2]
  refine wpAny_bind ?_
  · unfold isInstance
    refine wpAny_bind (L0.at (L1.at ?_))
    repeat (first | assumption | wp_step)
theorem exc_ca {Q : Option Value → Shared → Prop} {s : Shared} (X : K.In s.heap) (I : PySem.W.InstAt s.heap a o C none) (c : ExcC K C) (q : Q (some (.ref C)) { s with toks := s.toks + 1 }) : wpAny (model prog w) A (getAttr? (.ref a) "__class__") Q E s := by
  obtain ⟨h0, g0, d0, t0, o0⟩ := s
  have L0 := I.type (M := model prog w)
  have L1 := PySem.W.looks_findIn (M := model prog w) X c.ga
  have L2 := PySem.W.looks_findIn (M := model prog w) X c.gt
  have fo : PySem.W.findObj K C none "__class__" = some (.bind (.builtin "getset_descriptor.__get__") (.builtin "object.__class__")) := by
    obtain ⟨cd, hc⟩ := Option.isSome_iff_exists.mp c.hc
    unfold PySem.W.findObj
    rw [hc, Option.bind_some, c.ha, Option.bind_some]
    simp [c.hn, c.htk]
  have L3 := PySem.W.looks_find (M := model prog w) X I fo
  have bd := F.attr_ValueError.ga.bind (.ref a)
  have nb : (Value.builtin "BaseException.__getattribute__" == Value.builtin "object.__getattribute__") = false := by decide +kernel
  unfold getAttr? getAttrBy? getAttrBy
  refine wpAny_bind (wpAny_mkText (wpAny_bind (wpAny_attempt (wpAny_holding (wpAny_bind (L0.at (wpAny_bind (L1.at ?_))))))))
  dsimp only
  rw [nb, Bool.and_false, if_neg (by decide)]
  unfold getAttrByItsOwn hookBefore
  refine wpAny_bind ?_
  rw [if_pos (by rfl)]
  refine L2.at ?_
  unfold callGetattribute
  refine wpAny_bind (wpAny_attempt (wpAny_holding ?_))
  rw [if_neg (by decide)]
  unfold boundAndCalled
  refine wpAny_bind (wpAny_of_eq bd ?_)
  dsimp only
  refine wpAny_call (codeAny_call_builtin F.attr_ValueError.ga.plain F.entry_bexc_ga (exc_check X I c ?_))
  have L3 := L3.keeps (h' := h0) fun _ _ z => z
  have L0 := L0.keeps (h' := h0) fun _ _ z => z
  repeat (any_goals (first | assumption | with_reducible refine L0.at ?_ | with_reducible refine L3.at ?_ | wp_step))
  refine PySem.W.class_get (ox := o) (od := none) X I c.ob ?_
  refine wpAny_pure ?_
  exact PySem.W.handed_on rfl (wpAny_pure q)
theorem kitx_exc (c : ExcC K C) : PySem.W.KitX K (.ref a) (.ref C) (fun h => ∃ o, h.get? a = some o ∧ ExObj o (.ref C)) where
  ty := fun M h X ⟨o, e, x⟩ => (exc_inst e x).type
  it := fun M h X _ => by
    obtain ⟨cd, z⟩ := Option.isSome_iff_exists.mp c.hc
    unfold PySem.W.clsIn at z
    split at z
    · rename_i y1 y2 y3 y4 ho
      intro A' Q' E' s' k q
      unfold isType loadHead
      exact wpAny_bind (wpAny_loadPart (k _ _ (X _ _ ho)) (wpAny_pure q))
    · cases z
  ne := fun h tp dd its n sl X ht => by
    obtain ⟨cd, z⟩ := Option.isSome_iff_exists.mp c.hc
    refine Bool.eq_false_iff.mpr fun q => ?_
    have e : C = tp := Value.ref.inj (beq_iff_eq.mp q)
    subst e
    unfold PySem.W.clsIn at z
    split at z
    · rename_i y1 y2 y3 y4 ho
      have y := (X _ _ ho).symm.trans ht
      cases y
    · cases z
  ca := fun X ⟨o, e, x⟩ k => exc_ca X (exc_inst e x) c k
end
section
variable {X : Cx} {F0 H0 : Hp} {Ψ : Psi} {s : Str} {p p2 pos : Pos}
def rIsX (K : PySem.W.Frag) : List V → Hp → VK → Prop := fun xs H Q => ∃ a C v b, xs = [.ref a, v] ∧ H a = some (exO a (.ref C)) ∧ ExcC K C ∧ Q (.bl b) H ∧
  ((∃ u, RelV v u ∧ (∀ u', RelV v u' → u' = u) ∧ PySem.W.kitOne K (.ref C) u = some b) ∨ ∃ tp vs us, v = .ref tp ∧ H tp = some (.tup vs) ∧ Vals vs us ∧ (∀ us', Vals vs us' → us' = us) ∧ PySem.W.kitAny K (.ref C) us = some b)
theorem call_isX : CallR X (.builtin "isinstance") (rIsX X.K) := by
  intro pins s σ H xs us Q I r h
  obtain ⟨a, C, v, b, rfl, ha, c, q, h⟩ := h
  obtain ⟨u, w', rfl, rx, rw'⟩ := vals2 r
  cases (show u = Value.ref a from rx)
  obtain ⟨hx, _, _⟩ := (show ObjOk X.prog X.w H s.heap a (exO a (.ref C)) from I.hok a _ ha)
  rcases h with ⟨u, _, h2, h3⟩ | ⟨tp, vs, us, rfl, h2, h3, h4, h5⟩
  · obtain rfl := h2 _ rw'
    exact PySem.W.kia_one (kitx_exc c) I.kIn hx h3 (fun z => nomatch z) fun tk => ⟨.bl b, H, I.tok tk, rfl, q⟩
  · cases (show w' = Value.ref tp from rw')
    obtain ⟨_, its, rv, o, e1, e2, n, e3⟩ := (show ObjOk X.prog X.w H s.heap tp (.tup vs) from I.hok tp _ h2)
    obtain rfl := h4 _ rv
    obtain ⟨c0, d0, x0, s0⟩ := o
    dsimp only at e2 e3
    subst e2; subst e3
    exact PySem.W.kia_tup (kitx_exc c) I.kIn hx e1 h5 (fun z => nomatch z) fun tk => ⟨.bl b, H, I.tok tk, rfl, q⟩
end
end L3
set_option Elab.async false
set_option linter.all false
set_option maxRecDepth 100000
namespace L3
open PySem L2
section
variable {X : Cx} {F0 H0 : Hp} {Ψ : Psi} {cls : Addr → Addr} {e e2 : Expr} {es : List Expr} {p q : Ev → Bool} {f : Ev → R} {m l : Nat} {pos : Pos}
def pT (_ : Ev) : Bool := true
def pAnd (p q : Ev → Bool) (ev : Ev) : Bool := p ev && q ev
def pInt (f : Ev → R) (ev : Ev) : Bool := intOkR (f ev)
def pRep (f : Ev → R) (ev : Ev) : Bool := repOkR (f ev)
theorem jpn : JP X F0 H0 [] pT 0 := jp_nil
theorem jpc (h1 : VP X F0 H0 e p m) (h2 : JP X F0 H0 es q l) : JP X F0 H0 (e :: es) (pAnd p q) (m + l) := jp_cons h1 h2
theorem vps {x : Str} {kk} (n : Nat) (hx : x.length ≤ n := by decide) : VP X F0 H0 (.Constant (.str x) kk pos) pT n := vp_str n hx
theorem vpi (hv : VE X F0 H0 Psi0 e f) : VP X F0 H0 (.FormattedValue e (-1) none pos) (pInt f) 1921 := vp_int hv
theorem vpr (hv : VE X F0 H0 Psi0 e f) (hg : X.A.guards = some []) (hu : X.A.units + 64 < cLine) : VP X F0 H0 (.FormattedValue e 114 none pos) (pRep f) 10000 := vp_rep hv hg hu
theorem vmj (h : JP X F0 H0 (e :: e2 :: es) p l) (hl : l ≤ sizeLine := by decide) : VM X F0 H0 (.JoinedStr (e :: e2 :: es) pos) p := vm_join h hl
theorem vms {x : Str} {kk} : VM X F0 H0 (.Constant (.str x) kk pos) pT := fun pins s σ H Q I ⟨F, ev, fi, _, q⟩ => pe_str pins s σ H Q I (q F _ H fi.refl)
theorem raises0 : Raises X (PsiV cls Psi0) := fun _ _ _ _ _ _ _ _ f => by obtain ⟨_, _, z⟩ := f.now; exact z.elim
end
def refR : R → R
  | .ok .fz .non => .ok .fz (.bl false)
  | .ex _ => .ok .fz (.bl true)
  | _ => .no
end L3
set_option Elab.async false
set_option linter.all false
set_option maxRecDepth 100000
namespace L3
open PySem L2
theorem cls_some {K : PySem.W.Frag} {C : Addr} {b : Value} (d : PySem.W.mroIn K C b = some true) : (PySem.W.clsIn K C).isSome = true := by
  unfold PySem.W.mroIn at d
  cases h : PySem.W.clsIn K C with
  | none => rw [h] at d; cases d
  | some _ => rfl
theorem exm_of {K : PySem.W.Frag} {N H : Addr} (a : PySem.W.subIn K (.ref H) (.type "BaseException") = some true) (b : PySem.W.typeIn K (.ref H) = some (.type "type")) (c : PySem.W.subIn K (.ref N) (.ref H) = some true) (d : PySem.W.mroIn K H (.type "object") = some true) : PySem.W.exmOne K (.ref N) (.ref H) = some true := by
  unfold PySem.W.exmOne
  rw [a, if_pos (by rfl)]
  unfold PySem.W.kitCls
  dsimp only
  rw [b, cls_some d, if_pos (by rfl)]
  exact c
structure RefK (K : PySem.W.Frag) (mg : Str → Option Value) (cls : Addr → Addr) (c1 c2 c3 c4 HE C0 : Addr) : Prop where
  z1 : mg "NoPath" = some (.ref c1)
  z2 : mg "OutOfTime" = some (.ref c2)
  z3 : mg "TooLate" = some (.ref c3)
  z4 : mg "Twice" = some (.ref c4)
  z5 : mg "HearError" = some (.ref HE)
  z6 : ∀ q, PySem.W.exmOne K (.ref (cls q)) (.ref HE) = some true
  z7 : mg "NoNet" = some (.ref C0)
  z8 : mg "ValueError" = none
  z9 : ∀ q, ExcC K (cls q)
  y1 : ∀ q, PySem.W.kitAny K (.ref (cls q)) [.ref c1, .ref c2, .ref c3, .ref c4] = some false
  y2 : ∀ q, PySem.W.kitOne K (.ref (cls q)) (.ref C0) = some true
  y3 : ∀ q, PySem.W.kitOne K (.ref (cls q)) (.type "ValueError") = some true
section
variable {K : PySem.W.Frag} {mg : Str → Option Value} {cls : Addr → Addr} {c1 c2 c3 c4 HE C0 : Addr} {φ : List D → R} {F H : Hp} {d : D} {v : V}
theorem ref_uniq {a : Addr} : ∀ u', RelV (.ref a) u' → u' = .ref a := fun _ h => h
theorem ref_read (k : RefK K mg cls c1 c2 c3 c4 HE C0) {Q : VK} (sub : Same F H) (r : Rep K F d v) (m : match refR (φ [d]) with
      | .ok k d => k ≠ .bo ∧ ∀ F' v H', Post K F H k d F' v H' → Q v H'
      | _ => False) :
    tSeq (tAsg (tC .non) (gName 1)) (tSeq (fun D σ H1 => ∃ F1 ev, FI K F H F1 H1 ev σ ∧ match eFnX 1 φ (aCons (varR 0) aNil) ev with
      | .ok _ _ => ∀ F' H', Step F1 H1 F' H' → D.nx σ H'
      | .ex q => ∀ F' H' a, Step F H F' H' → H' a = some (exO a (.ref (cls q))) → D.nx (((σ.set 2 (some (.ref a))).set 1 (some (.ref a))).set 2 none) H'
      | .no => False)
      (tSeq (tIfS (tOr (tB (tIsN (tVar 1))) (tB (tCB (rIsX K) (tCons (tVar 1) (tCons (tTup (tCons (tC (.ref c1)) (tCons (tC (.ref c2)) (tCons (tC (.ref c3)) (tCons (tC (.ref c4)) tNil))))) tNil))))) (tRet (tC (.bl false))) tNext)
        (tRet (tAndV (tCB (rIsX K) (tCons (tVar 1) (tCons (tC (.ref C0)) tNil))) (tCB (rIsX K) (tCons (tVar 1) (tCons (tC (.ty "ValueError")) tNil)))))))
      { nx := fun _ H' => Q .non H', rt := Q } [some v, none, none] H := by
  have fi : FI K F H F H [some (.fz, d), some (.fz, .non), none] [some v, some .non, none] := by
    refine ⟨.refl sub, fun i k' d' e => ?_, fun i j d1 d2 hij e1 e2 => ?_, rfl⟩
    · match i with
      | 0 => cases e; exact ⟨by simp, v, rfl, r⟩
      | 1 => cases e; exact ⟨by simp, .non, rfl, by rw [Val, Rep]⟩
      | 2 => cases e
      | i + 3 => simp at e
    · match i with
      | 0 => cases e1
      | 1 => cases e1
      | 2 => cases e1
      | i + 3 => simp at e1
  show tSeq _ _ _ [some v, some .non, none] H
  refine ⟨F, [some (.fz, d), some (.fz, .non), none], fi, ?_⟩
  have e : eFnX 1 φ (aCons (varR 0) aNil) [some (.fz, d), some (.fz, .non), none] = rxF (φ [d]) := rfl
  rw [e]
  cases q : φ [d] with
  | no => rw [q] at m; exact m
  | ok k' d' =>
    rw [q] at m
    cases k' with
    | fz => cases d' with
      | non =>
        intro F' H' st
        exact ⟨.non, rfl, true, rfl, m.2 F' (.bl false) H' ⟨st, by rw [Val, Rep]⟩⟩
      | _ => exact m.elim
    | _ => exact m.elim
  | ex i =>
    rw [q] at m
    intro F' H' a st ha
    refine ⟨.ref a, rfl, false, rfl, ?_⟩
    refine ⟨.ref a, rfl, (by show 4 ≤ sizeLine; decide), fun p hp => ?_⟩
    have ne : a ≠ p := fun z => by rw [z, hp] at ha; cases ha
    have ha' : upd H' p (.tup [.ref c1, .ref c2, .ref c3, .ref c4]) a = some (exO a (.ref (cls i))) := by rw [upd_ne ne]; exact ha
    have vl : Vals [.ref c1, .ref c2, .ref c3, .ref c4] [Value.ref c1, .ref c2, .ref c3, .ref c4] := .cons rfl (.cons rfl (.cons rfl (.cons rfl .nil)))
    refine ⟨a, cls i, .ref p, false, rfl, ha', k.z9 i, ⟨false, rfl, ?_⟩, .inr ⟨p, _, _, rfl, upd_same, vl, fun us h => ?_, k.y1 i⟩⟩
    · refine ⟨.ref a, rfl, a, cls i, .ref C0, true, rfl, ha', k.z9 i, ⟨true, rfl, ?_⟩, .inl ⟨.ref C0, rfl, ref_uniq, k.y2 i⟩⟩
      refine ⟨.ref a, rfl, a, cls i, .ty "ValueError", true, rfl, ha', k.z9 i, ?_, .inl ⟨.type "ValueError", rfl, fun _ h => h, k.y3 i⟩⟩
      exact m.2 F' (.bl true) _ ⟨st.trans (step_upd st.sub hp), by rw [Val, Rep]⟩
    · cases h with
      | cons r1 h => cases h with
        | cons r2 h => cases h with
          | cons r3 h => cases h with
            | cons r4 h => cases h; cases r1; cases r2; cases r3; cases r4; rfl
end
end L3
set_option Elab.async false
set_option linter.all false
set_option maxRecDepth 100000
namespace L3
open PySem L2
section
variable {n : Nat} {φ : List D → R} {fs : Ev → RA} {ev : Ev} {i : Addr}
@[simp] theorem eFnX_eq : eFnX n φ fs ev = fnRX n φ (fs ev) := (rfl)
theorem fnRX_ok {l : List (Kd × D)} (h : l.length = n) : fnRX n φ (.ok l) = rxO φ l (allFz l) := by simp only [fnRX, if_pos h]
@[simp] theorem fnRX_1 {a : Kd × D} : fnRX 1 φ (.ok [a]) = rxO φ [a] (allFz [a]) := (fnRX_ok rfl)
@[simp] theorem fnRX_2 {a b : Kd × D} : fnRX 2 φ (.ok [a, b]) = rxO φ [a, b] (allFz [a, b]) := (fnRX_ok rfl)
@[simp] theorem fnRX_3 {a b c : Kd × D} : fnRX 3 φ (.ok [a, b, c]) = rxO φ [a, b, c] (allFz [a, b, c]) := (fnRX_ok rfl)
@[simp] theorem rxO_some {l : List (Kd × D)} {ds : List D} : rxO φ l (some ds) = rxF (φ ds) := (rfl)
@[simp] theorem rxO_none {l : List (Kd × D)} : rxO φ l none = rxS (φ (l.map (·.2))) := (rfl)
@[simp] theorem rxF_fz {d : D} : rxF (.ok .fz d) = .ok .fz d := (rfl)
@[simp] theorem rxF_ow {d : D} : rxF (.ok .ow d) = .ok .ow d := (rfl)
@[simp] theorem rxF_ex : rxF (.ex i) = .ex i := (rfl)
@[simp] theorem rxS_ex : rxS (.ex i) = .ex i := (rfl)
@[simp] theorem rxS_non {k : Kd} (h : k ≠ .bo) : rxS (.ok k .non) = .ok .fz .non := by cases k <;> first | rfl | exact absurd rfl h
@[simp] theorem raiseG_eq {p : Ev → Bool} : raiseG i p ev = if p ev = true then .ex i else .no := (rfl)
@[simp] theorem intOkR_int {k : Kd} {x : Int} : intOkR (.ok k (.int x)) = decide (x.natAbs.log2 < 1920) := (rfl)
@[simp] theorem repOkR_tup {k : Kd} {l : List D} : repOkR (.ok k (.tup l)) = shO (py (.tup l)) := (rfl)
end
end L3
set_option Elab.async false
set_option linter.all false
set_option maxRecDepth 100000
set_option maxHeartbeats 4000000
namespace My
open PySem L2 L3
def top (i : Nat) : Stmt := PySem.Challenge.pw_hearsay_k01_nets_refused.main.body.getD i (.Pass ⟨0, 0, 0, 0⟩)
abbrev s_L_cell_at : Stmt := top 13
abbrev N_L_cell_at : List Str := ["_law_script", "_law_k"]
abbrev ps_L_cell_at : List Str := ["_law_script", "_law_k"]
def g_L_cell_at_j1 : Ev → Fl := (retG (eOp addD (eOp mulD (conR (.int 7)) (varR 1)) (conR (.int 5))))
def g_L_cell_at : Ev → Fl := (seqG (ifG (eOp ltD (varR 1) (eCall lenD (aCons (varR 0) aNil))) (retG (eOp idxD (varR 0) (varR 1))) (.nx))
    g_L_cell_at_j1)
def φ_L_cell_at : List D → R := runF 0 g_L_cell_at
abbrev s_L_mix : Stmt := top 14
abbrev N_L_mix : List Str := ["_law_cell", "_law_k", "_law_number"]
abbrev ps_L_mix : List Str := ["_law_cell", "_law_k"]
def g_L_mix : Ev → Fl := (seqG (setG 2 (eOp modD (eOp mulD (eOp addD (eOp addD (eOp modD (varR 0) (conR (.int 1000003))) (eOp mulD (eOp mulD (varR 1) (varR 1)) (conR (.int 7919)))) (varR 1)) (conR (.int 48271))) (conR (.int 2147483629))))
    (retG (eOp fdivD (eOp modD (eOp mulD (varR 2) (varR 2)) (conR (.int 2147483587))) (conR (.int 7)))))
def φ_L_mix : List D → R := runF 1 g_L_mix
abbrev s_L_big_net : Stmt := top 15
abbrev N_L_big_net : List Str := ["_law_script", "_law_number", "_law_houses", "_law_paths", "_law_pairs", "_law_k", "_law_drawn", "_law_start", "_law_step", "_law_goal", "_law_most"]
abbrev ps_L_big_net : List Str := ["_law_script"]
def g_L_big_net_j1 : Ev → Fl := (seqG (setG 9 (eOp modD (eOp addD (varR 7) (varR 8)) (varR 2)))
    (seqG (setG 10 (eOp idxD (eLst (aCons (conR .non) (aCons (eOp addD (conR (.int 1)) (eOp modD (eOp fdivD (varR 6) (conR (.int 512))) (conR (.int 9)))) (aCons (eOp addD (conR (.int 1)) (eOp modD (eOp fdivD (varR 6) (conR (.int 512))) (conR (.int 60)))) (aCons (eOp addD (conR (.int 1)) (eOp modD (eOp idxD (varR 0) (varR 5)) (eOp subD (eOp powD (conR (.int 10)) (conR (.int 60))) (conR (.int 1))))) aNil))))) (eOp modD (eOp fdivD (varR 6) (conR (.int 64))) (conR (.int 4)))))
    (ifG (eAnd (eOp neD (varR 7) (varR 9)) (eOp notInD (eTup (aCons (varR 7) (aCons (varR 9) aNil))) (varR 4))) (seqG (appG 4 (eTup (aCons (varR 7) (aCons (varR 9) aNil))))
    (appG 3 (eTup (aCons (varR 7) (aCons (varR 9) (aCons (varR 10) aNil)))))) (.nx))))
def g_L_big_net_b1 : Ev → Fl := (seqG (setG 6 (eFn 2 φ_L_mix (aCons (eOp idxD (varR 0) (varR 5)) (aCons (conR (.int 2)) aNil))))
    (seqG (setG 7 (eOp modD (varR 6) (varR 2)))
    (seqG (setG 8 (eOp addD (conR (.int 1)) (eOp modD (eOp fdivD (varR 6) (conR (.int 8))) (eCall max2D (aCons (conR (.int 1)) (aCons (eOp subD (varR 2) (conR (.int 1))) aNil))))))
    (seqG (ifG (eOp eqD (eOp modD (eOp fdivD (varR 1) (conR (.int 8))) (conR (.int 4))) (conR (.int 0))) (seqG (setG 7 (eOp modD (varR 5) (varR 2)))
    (setG 8 (conR (.int 1)))) (.nx))
    g_L_big_net_j1))))
def g_L_big_net_j2 : Ev → Fl := (frzG 3 (frzG 2 (retG (eTup (aCons (varR 2) (aCons (varR 3) aNil))))))
def g_L_big_net : Ev → Fl := (seqG (setG 1 (eFn 2 φ_L_mix (aCons (eFn 2 φ_L_cell_at (aCons (varR 0) (aCons (conR (.int 0)) aNil))) (aCons (conR (.int 1)) aNil))))
    (seqG (setG 2 (eOp addD (conR (.int 1)) (eOp modD (varR 1) (conR (.int 8)))))
    (seqG (setG 3 (eLst aNil))
    (seqG (setG 4 (eLst aNil))
    (seqG (forG (iRange2 (aCons (conR (.int 1)) (aCons (eCall min2D (aCons (eCall lenD (aCons (varR 0) aNil)) (aCons (conR (.int 64)) aNil))) aNil))) (bName 5) g_L_big_net_b1)
    g_L_big_net_j2)))))
def φ_L_big_net : List D → R := runF 10 g_L_big_net
abbrev s_L_no_house : Stmt := top 16
abbrev N_L_no_house : List Str := ["_law_houses", "_law_number", "_law_cell"]
abbrev ps_L_no_house : List Str := ["_law_houses", "_law_number", "_law_cell"]
def g_L_no_house : Ev → Fl := (retG (eOp idxD (eLst (aCons (eOp subD (conR (.int 0)) (conR (.int 1))) (aCons (varR 0) (aCons (eOp addD (eOp addD (varR 0) (conR (.int 1))) (eOp modD (varR 2) (eOp powD (conR (.int 10)) (conR (.int 30))))) (aCons (eOp subD (eOp subD (conR (.int 0)) (conR (.int 2))) (eOp modD (varR 2) (eOp powD (conR (.int 10)) (conR (.int 30))))) aNil))))) (eOp modD (varR 1) (conR (.int 4)))))
def φ_L_no_house : List D → R := runF 0 g_L_no_house
abbrev s_L_fault : Stmt := top 17
abbrev N_L_fault : List Str := ["_law_net", "_law_number", "_law_cell", "_law_houses", "_law_paths", "_law_at", "_law_way", "_law_some", "_law_put", "_law_old"]
abbrev ps_L_fault : List Str := ["_law_net", "_law_number", "_law_cell"]
def g_L_fault_j1 : Ev → Fl := (retG (eTup (aCons (varR 3) (aCons (eOp addD (eOp addD (eSl (varR 4) oNo (oSome (varR 5))) (eLst (aCons (varR 8) aNil))) (eSl (varR 4) (oSome (varR 5)) oNo)) aNil))))
def g_L_fault_j2 : Ev → Fl := (seqG (ifG (eAnd (eOp eqD (varR 6) (conR (.int 5))) (eOp gtD (eCall lenD (aCons (varR 4) aNil)) (conR (.int 0)))) (seqG (setG 5 (eOp modD (eOp fdivD (varR 1) (conR (.int 192))) (eCall lenD (aCons (varR 4) aNil))))
    (seqG (setG 8 (eTup (aCons (eOp idxD (eOp idxD (varR 4) (varR 5)) (conR (.int 0))) (aCons (eOp idxD (eOp idxD (varR 4) (varR 5)) (conR (.int 1))) (aCons (eOp idxD (eLst (aCons (conR (.int 0)) (aCons (eOp subD (conR (.int 0)) (conR (.int 1))) (aCons (eOp subD (conR (.int 0)) (eOp modD (varR 2) (eOp powD (conR (.int 10)) (conR (.int 60))))) aNil)))) (eOp modD (eOp fdivD (varR 1) (conR (.int 6))) (conR (.int 3)))) aNil)))))
    (retG (eTup (aCons (varR 3) (aCons (eOp addD (eOp addD (eSl (varR 4) oNo (oSome (varR 5))) (eLst (aCons (varR 8) aNil))) (eSl (varR 4) (oSome (eOp addD (varR 5) (conR (.int 1)))) oNo)) aNil)))))) (.nx))
    g_L_fault_j1)
def g_L_fault_j3 : Ev → Fl := (seqG (ifG (eAnd (eOp gtD (varR 6) (conR (.int 3))) (eOp gtD (eCall lenD (aCons (varR 4) aNil)) (conR (.int 0)))) (seqG (setG 9 (eOp idxD (varR 4) (eOp modD (eOp fdivD (varR 1) (conR (.int 192))) (eCall lenD (aCons (varR 4) aNil)))))
    (setG 8 (eTup (aCons (eOp idxD (varR 9) (conR (.int 0))) (aCons (eOp idxD (varR 9) (conR (.int 1))) (aCons (eOp idxD (eLst (aCons (conR .non) (aCons (conR (.int 1)) (aCons (conR (.int 2)) (aCons (eOp powD (conR (.int 10)) (conR (.int 30))) aNil))))) (eOp modD (eOp fdivD (varR 1) (conR (.int 6))) (conR (.int 4)))) aNil)))))) (.nx))
    g_L_fault_j2)
def g_L_fault_j4 : Ev → Fl := (seqG (ifG (eOp eqD (varR 6) (conR (.int 2))) (setG 8 (eTup (aCons (varR 7) (aCons (eFn 3 φ_L_no_house (aCons (varR 3) (aCons (eOp fdivD (varR 1) (conR (.int 6))) (aCons (varR 2) aNil)))) (aCons (conR .non) aNil))))) (.nx))
    g_L_fault_j3)
def g_L_fault_j5 : Ev → Fl := (seqG (setG 7 (eOp modD (eOp fdivD (varR 1) (conR (.int 24))) (varR 3)))
    (seqG (setG 8 (eTup (aCons (varR 7) (aCons (varR 7) (aCons (eOp addD (conR (.int 1)) (eOp modD (varR 2) (conR (.int 9)))) aNil)))))
    (seqG (ifG (eOp eqD (varR 6) (conR (.int 1))) (setG 8 (eTup (aCons (eFn 3 φ_L_no_house (aCons (varR 3) (aCons (eOp fdivD (varR 1) (conR (.int 6))) (aCons (varR 2) aNil)))) (aCons (varR 7) (aCons (conR (.int 1)) aNil))))) (.nx))
    g_L_fault_j4)))
def g_L_fault_j6 : Ev → Fl := (seqG (ifG (eOp eqD (varR 6) (conR (.int 0))) (retG (eTup (aCons (eOp idxD (eLst (aCons (conR (.int 9)) (aCons (eOp addD (conR (.int 9)) (eOp modD (varR 2) (eOp powD (conR (.int 10)) (conR (.int 30))))) aNil))) (eOp modD (eOp fdivD (varR 1) (conR (.int 18))) (conR (.int 2)))) (aCons (varR 4) aNil)))) (.nx))
    g_L_fault_j5)
def g_L_fault : Ev → Fl := (seqG (asgG (bTup 2 (bCons (bName 3) (bCons (bName 4) bNil))) (varR 0))
    (seqG (setG 5 (eOp modD (eOp fdivD (varR 1) (conR (.int 24))) (eOp addD (eCall lenD (aCons (varR 4) aNil)) (conR (.int 1)))))
    (seqG (setG 6 (eOp modD (varR 1) (conR (.int 6))))
    (seqG (ifG (eAnd (eOp eqD (varR 6) (conR (.int 0))) (eOp eqD (eOp modD (eOp fdivD (varR 1) (conR (.int 6))) (conR (.int 3))) (conR (.int 0)))) (retG (eTup (aCons (eOp idxD (eLst (aCons (conR (.int 0)) (aCons (eOp subD (conR (.int 0)) (conR (.int 1))) (aCons (eOp subD (conR (.int 0)) (eOp modD (varR 2) (eOp powD (conR (.int 10)) (conR (.int 30))))) aNil)))) (eOp modD (eOp fdivD (varR 1) (conR (.int 18))) (conR (.int 3)))) (aCons (eLst aNil) aNil)))) (.nx))
    g_L_fault_j6))))
def φ_L_fault : List D → R := runF 7 g_L_fault
abbrev s_P_is_house : Stmt := top 11
abbrev N_P_is_house : List Str := ["houses", "house"]
abbrev ps_P_is_house : List Str := ["houses", "house"]
def g_P_is_house : Ev → Fl := (retG (eChain leD ltD (conR (.int 0)) (varR 1) (varR 0)))
def φ_P_is_house : List D → R := runF 0 g_P_is_house
abbrev s_P_check_path : Stmt := top 10
abbrev N_P_check_path : List Str := ["houses", "path"]
abbrev ps_P_check_path : List Str := ["houses", "path"]
def g_P_check_path_j1 : Ev → Fl := (ifG (eAnd (eOp notND (eOp idxD (varR 1) (conR (.int 2))) (conR .non)) (eOp ltD (eOp idxD (varR 1) (conR (.int 2))) (conR (.int 1)))) (raiseG 0 (pAnd pT (pAnd (pRep (varR 1)) pT))) (.nx))
def g_P_check_path_j2 : Ev → Fl := (seqG (ifG (eOp eqD (eOp idxD (varR 1) (conR (.int 0))) (eOp idxD (varR 1) (conR (.int 1)))) (raiseG 0 (pAnd pT (pAnd (pRep (varR 1)) pT))) (.nx))
    g_P_check_path_j1)
def g_P_check_path : Ev → Fl := (seqG (ifG (eOr (eNot (eFn 2 φ_P_is_house (aCons (varR 0) (aCons (eOp idxD (varR 1) (conR (.int 0))) aNil)))) (eNot (eFn 2 φ_P_is_house (aCons (varR 0) (aCons (eOp idxD (varR 1) (conR (.int 1))) aNil))))) (raiseG 0 (pAnd pT (pAnd (pRep (varR 1)) pT))) (.nx))
    g_P_check_path_j2)
def φ_P_check_path : List D → R := runF 0 g_P_check_path
abbrev s_P_check_net : Stmt := top 9
abbrev N_P_check_net : List Str := ["net", "houses", "path", "ends"]
abbrev ps_P_check_net : List Str := ["net"]
def g_P_check_net_b1 : Ev → Fl := (dropG (eFnX 2 φ_P_check_path (aCons (varR 1) (aCons (varR 2) aNil))))
def g_P_check_net_j1 : Ev → Fl := (seqG (setG 3 (eComp ([none] : List (Option Nat)) (iLst (eOp idxD (varR 0) (conR (.int 1)))) (bName 0) (conR (.bl true)) (eTup (aCons (eOp idxD (varR 0) (conR (.int 0))) (aCons (eOp idxD (varR 0) (conR (.int 1))) aNil)))))
    (ifG (eOp ltD (eLenSet (varR 3)) (eCall lenD (aCons (varR 3) aNil))) (raiseG 0 pT) (.nx)))
def g_P_check_net_j2 : Ev → Fl := (seqG (forG (iLst (eOp idxD (varR 0) (conR (.int 1)))) (bName 2) g_P_check_net_b1)
    g_P_check_net_j1)
def g_P_check_net : Ev → Fl := (seqG (setG 1 (eOp idxD (varR 0) (conR (.int 0))))
    (seqG (ifG (eNot (eChain leD leD (conR (.int 1)) (varR 1) (conR (.int 8)))) (raiseG 0 (pAnd pT (pAnd (pInt (conR (.int 8))) (pAnd pT (pAnd (pInt (varR 1)) pT))))) (.nx))
    g_P_check_net_j2))
def φ_P_check_net : List D → R := runF 3 g_P_check_net
abbrev s_L_refused : Stmt := top 18
abbrev N_L_refused : List Str := ["_law_net", "_law_kept", "e"]
abbrev ps_L_refused : List Str := ["_law_net"]
def φ_L_refused : List D → R := fun ds => refR (φ_P_check_net ds)
abbrev s_law : Stmt := top 19
abbrev N_law : List Str := ["_law_script", "_law_net", "_law_handed", "_law_bad"]
abbrev ps_law : List Str := ["_law_script"]
def g_law_j1 : Ev → Fl := (frzG 1 (seqG (setG 3 (eFn 3 φ_L_fault (aCons (varR 1) (aCons (eFn 2 φ_L_mix (aCons (eFn 2 φ_L_cell_at (aCons (varR 0) (aCons (conR (.int 0)) aNil))) (aCons (conR (.int 3)) aNil))) (aCons (eFn 2 φ_L_cell_at (aCons (varR 0) (aCons (conR (.int 1)) aNil))) aNil)))))
    (seqG (setG 2 (eTup (aCons (eOp idxD (varR 3) (conR (.int 0))) (aCons (eCall listD (aCons (eOp idxD (varR 3) (conR (.int 1))) aNil)) aNil))))
    (retG (eAnd (eFn 1 φ_L_refused (aCons (varR 2) aNil)) (eAnd (eFn 1 φ_L_refused (aCons (varR 2) aNil)) (eOp eqD (varR 2) (varR 3))))))))
def g_law : Ev → Fl := (seqG (setG 1 (eFn 1 φ_L_big_net (aCons (varR 0) aNil)))
    (seqG (setG 2 (eTup (aCons (eOp idxD (varR 1) (conR (.int 0))) (aCons (eCall listD (aCons (eOp idxD (varR 1) (conR (.int 1))) aNil)) aNil))))
    (seqG (ifG (eOr (eOp notND (eFnX 1 φ_P_check_net (aCons (varR 2) aNil)) (conR .non)) (eOp neD (varR 2) (varR 1))) (retG (conR (.bl false))) (.nx))
    g_law_j1)))
def φ_law : List D → R := runF 3 g_law
section
variable {P : Program} {w : World} {K : PySem.W.Frag} {mg : Str → Option Value} {base : Heap}
theorem sc_L_cell_at : FnScope N_L_cell_at ps_L_cell_at (defScope s_L_cell_at) := ⟨rfl, rfl, rfl, by decide +kernel, rfl, by decide +kernel, by decide +kernel⟩
theorem ok_L_cell_at {f : Addr} {fd : FuncData} (Fn : Fun K "_law_cell_at" "_law_cell_at" s_L_cell_at f fd) (m_len : mg "len" = none) : FnOk P w K mg base CX0 1 f fd ps_L_cell_at (spV0 K φ_L_cell_at 2) :=
  fn_ok (N := N_L_cell_at) (ps := ps_L_cell_at) (k := 0) (g := g_L_cell_at) Fn sc_L_cell_at (fun cdv A outer s H E F0 hr => let hu := room_u hr; (vs_cons (vs_if (vt_cmp c_lt (v_var 1) (v_len m_len (va_cons (v_var 0) va_nil))) (vs_one (vs_ret (v_idx hu (v_var 0) (v_var 1)))) vs_nil)
    (vs_one (vs_ret (v_add (v_mul v_int (v_var 1)) v_int)))))
theorem sc_L_mix : FnScope N_L_mix ps_L_mix (defScope s_L_mix) := ⟨rfl, rfl, rfl, by decide +kernel, rfl, by decide +kernel, by decide +kernel⟩
theorem ok_L_mix {f : Addr} {fd : FuncData} (Fn : Fun K "_law_mix" "_law_mix" s_L_mix f fd) : FnOk P w K mg base CX0 1 f fd ps_L_mix (spV0 K φ_L_mix 2) :=
  fn_ok (N := N_L_mix) (ps := ps_L_mix) (k := 0) (g := g_L_mix) Fn sc_L_mix (fun cdv A outer s H E F0 hr => (vs_cons (vs_set 2 sc_L_mix.nd (v_mod (v_mul (v_add (v_add (v_mod (v_var 0) v_int) (v_mul (v_mul (v_var 1) (v_var 1)) v_int)) (v_var 1)) v_int) v_int))
    (vs_one (vs_ret (v_fdiv (v_mod (v_mul (v_var 2) (v_var 2)) v_int) v_int)))))
theorem sc_L_big_net : FnScope N_L_big_net ps_L_big_net (defScope s_L_big_net) := ⟨rfl, rfl, rfl, by decide +kernel, rfl, by decide +kernel, by decide +kernel⟩
theorem ok_L_big_net {f : Addr} {fd : FuncData} (Fn : Fun K "_law_big_net" "_law_big_net" s_L_big_net f fd) (m_len : mg "len" = none) (m_max : mg "max" = none) (m_min : mg "min" = none) (m_range : mg "range" = none) (C_L_cell_at : Callee P w K mg base 1 "_law_cell_at" 2 φ_L_cell_at) (C_L_mix : Callee P w K mg base 1 "_law_mix" 2 φ_L_mix) : FnOk P w K mg base CX0 2 f fd ps_L_big_net (spV0 K φ_L_big_net 1) :=
  fn_ok (N := N_L_big_net) (ps := ps_L_big_net) (k := 1) (g := g_L_big_net) Fn sc_L_big_net (fun cdv A outer s H E F0 hr => let hu := room_u hr; (vs_cons (vs_set 1 sc_L_big_net.nd (v_fn C_L_mix (hr.mono (by decide)) (va_cons (v_fn C_L_cell_at (hr.mono (by decide)) (va_cons (v_var 0) (va_cons v_int va_nil))) (va_cons v_int va_nil))))
    (vs_cons (vs_set 2 sc_L_big_net.nd (v_add v_int (v_mod (v_var 1) v_int)))
    (vs_cons (vs_set 3 sc_L_big_net.nd (v_lst va_nil))
    (vs_cons (vs_set 4 sc_L_big_net.nd (v_lst va_nil))
    (vs_cons (vs_for .never rfl (vi_range2 m_range (va_cons v_int (va_cons (v_min2 rfl m_min (va_cons (v_len m_len (va_cons (v_var 0) va_nil)) (va_cons v_int va_nil))) va_nil))) (vg_name 5 sc_L_big_net.nd)
    (vs_cons (vs_set 6 sc_L_big_net.nd (v_fn C_L_mix (hr.mono (by decide)) (va_cons (v_idx hu (v_var 0) (v_var 5)) (va_cons v_int va_nil))))
    (vs_cons (vs_set 7 sc_L_big_net.nd (v_mod (v_var 6) (v_var 2)))
    (vs_cons (vs_set 8 sc_L_big_net.nd (v_add v_int (v_mod (v_fdiv (v_var 6) v_int) (v_max2 rfl m_max (va_cons v_int (va_cons (v_sub (v_var 2) v_int) va_nil))))))
    (vs_cons (vs_if (vt_cmp (c_eq hu) (v_mod (v_fdiv (v_var 1) v_int) v_int) v_int) (vs_cons (vs_set 7 sc_L_big_net.nd (v_mod (v_var 5) (v_var 2)))
    (vs_one (vs_set 8 sc_L_big_net.nd v_int))) vs_nil)
    (vs_cons (vs_set 9 sc_L_big_net.nd (v_mod (v_add (v_var 7) (v_var 8)) (v_var 2)))
    (vs_cons (vs_set 10 sc_L_big_net.nd (v_idx hu (v_lst (va_cons v_non (va_cons (v_add v_int (v_mod (v_fdiv (v_var 6) v_int) v_int)) (va_cons (v_add v_int (v_mod (v_fdiv (v_var 6) v_int) v_int)) (va_cons (v_add v_int (v_mod (v_idx hu (v_var 0) (v_var 5)) (v_sub (v_pow v_int v_int) v_int))) va_nil))))) (v_mod (v_fdiv (v_var 6) v_int) v_int)))
    (vs_one (vs_if (vt_w (vw_and (vt_cmp (c_ne hu) (v_var 7) (v_var 9)) (vw_and1 (vt_cmp (c_notin hu) (v_tup (va_cons (v_var 7) (va_cons (v_var 9) va_nil))) (v_var 4))))) (vs_cons (vs_app 4 (v_tup (va_cons (v_var 7) (va_cons (v_var 9) va_nil))))
    (vs_one (vs_app 3 (v_tup (va_cons (v_var 7) (va_cons (v_var 9) (va_cons (v_var 10) va_nil))))))) vs_nil)))))))))
    (vs_frz 3 (vs_frz 2 (vs_one (vs_ret (v_tup (va_cons (v_var 2) (va_cons (v_var 3) va_nil)))))))))))))
theorem sc_L_no_house : FnScope N_L_no_house ps_L_no_house (defScope s_L_no_house) := ⟨rfl, rfl, rfl, by decide +kernel, rfl, by decide +kernel, by decide +kernel⟩
theorem ok_L_no_house {f : Addr} {fd : FuncData} (Fn : Fun K "_law_no_house" "_law_no_house" s_L_no_house f fd) : FnOk P w K mg base CX0 1 f fd ps_L_no_house (spV0 K φ_L_no_house 3) :=
  fn_ok (N := N_L_no_house) (ps := ps_L_no_house) (k := 0) (g := g_L_no_house) Fn sc_L_no_house (fun cdv A outer s H E F0 hr => let hu := room_u hr; (vs_one (vs_ret (v_idx hu (v_lst (va_cons (v_sub v_int v_int) (va_cons (v_var 0) (va_cons (v_add (v_add (v_var 0) v_int) (v_mod (v_var 2) (v_pow v_int v_int))) (va_cons (v_sub (v_sub v_int v_int) (v_mod (v_var 2) (v_pow v_int v_int))) va_nil))))) (v_mod (v_var 1) v_int)))))
theorem sc_L_fault : FnScope N_L_fault ps_L_fault (defScope s_L_fault) := ⟨rfl, rfl, rfl, by decide +kernel, rfl, by decide +kernel, by decide +kernel⟩
theorem ok_L_fault {f : Addr} {fd : FuncData} (Fn : Fun K "_law_fault" "_law_fault" s_L_fault f fd) (m_len : mg "len" = none) (C_L_no_house : Callee P w K mg base 1 "_law_no_house" 3 φ_L_no_house) : FnOk P w K mg base CX0 2 f fd ps_L_fault (spV0 K φ_L_fault 3) :=
  fn_ok (N := N_L_fault) (ps := ps_L_fault) (k := 1) (g := g_L_fault) Fn sc_L_fault (fun cdv A outer s H E F0 hr => let hu := room_u hr; (vs_cons (vs_asg (v_var 0) (vg_tup rfl (vg_cons (vg_name 3 sc_L_fault.nd) (vg_cons (vg_name 4 sc_L_fault.nd) vg_nil))))
    (vs_cons (vs_set 5 sc_L_fault.nd (v_mod (v_fdiv (v_var 1) v_int) (v_add (v_len m_len (va_cons (v_var 4) va_nil)) v_int)))
    (vs_cons (vs_set 6 sc_L_fault.nd (v_mod (v_var 1) v_int))
    (vs_cons (vs_if (vt_w (vw_and (vt_cmp (c_eq hu) (v_var 6) v_int) (vw_and1 (vt_cmp (c_eq hu) (v_mod (v_fdiv (v_var 1) v_int) v_int) v_int)))) (vs_one (vs_ret (v_tup (va_cons (v_idx hu (v_lst (va_cons v_int (va_cons (v_sub v_int v_int) (va_cons (v_sub v_int (v_mod (v_var 2) (v_pow v_int v_int))) va_nil)))) (v_mod (v_fdiv (v_var 1) v_int) v_int)) (va_cons (v_lst va_nil) va_nil))))) vs_nil)
    (vs_cons (vs_if (vt_cmp (c_eq hu) (v_var 6) v_int) (vs_one (vs_ret (v_tup (va_cons (v_idx hu (v_lst (va_cons v_int (va_cons (v_add v_int (v_mod (v_var 2) (v_pow v_int v_int))) va_nil))) (v_mod (v_fdiv (v_var 1) v_int) v_int)) (va_cons (v_var 4) va_nil))))) vs_nil)
    (vs_cons (vs_set 7 sc_L_fault.nd (v_mod (v_fdiv (v_var 1) v_int) (v_var 3)))
    (vs_cons (vs_set 8 sc_L_fault.nd (v_tup (va_cons (v_var 7) (va_cons (v_var 7) (va_cons (v_add v_int (v_mod (v_var 2) v_int)) va_nil)))))
    (vs_cons (vs_if (vt_cmp (c_eq hu) (v_var 6) v_int) (vs_one (vs_set 8 sc_L_fault.nd (v_tup (va_cons (v_fn C_L_no_house (hr.mono (by decide)) (va_cons (v_var 3) (va_cons (v_fdiv (v_var 1) v_int) (va_cons (v_var 2) va_nil)))) (va_cons (v_var 7) (va_cons v_int va_nil)))))) vs_nil)
    (vs_cons (vs_if (vt_cmp (c_eq hu) (v_var 6) v_int) (vs_one (vs_set 8 sc_L_fault.nd (v_tup (va_cons (v_var 7) (va_cons (v_fn C_L_no_house (hr.mono (by decide)) (va_cons (v_var 3) (va_cons (v_fdiv (v_var 1) v_int) (va_cons (v_var 2) va_nil)))) (va_cons v_non va_nil)))))) vs_nil)
    (vs_cons (vs_if (vt_w (vw_and (vt_cmp c_gt (v_var 6) v_int) (vw_and1 (vt_cmp c_gt (v_len m_len (va_cons (v_var 4) va_nil)) v_int)))) (vs_cons (vs_set 9 sc_L_fault.nd (v_idx hu (v_var 4) (v_mod (v_fdiv (v_var 1) v_int) (v_len m_len (va_cons (v_var 4) va_nil)))))
    (vs_one (vs_set 8 sc_L_fault.nd (v_tup (va_cons (v_idx hu (v_var 9) v_int) (va_cons (v_idx hu (v_var 9) v_int) (va_cons (v_idx hu (v_lst (va_cons v_non (va_cons v_int (va_cons v_int (va_cons (v_pow v_int v_int) va_nil))))) (v_mod (v_fdiv (v_var 1) v_int) v_int)) va_nil))))))) vs_nil)
    (vs_cons (vs_if (vt_w (vw_and (vt_cmp (c_eq hu) (v_var 6) v_int) (vw_and1 (vt_cmp c_gt (v_len m_len (va_cons (v_var 4) va_nil)) v_int)))) (vs_cons (vs_set 5 sc_L_fault.nd (v_mod (v_fdiv (v_var 1) v_int) (v_len m_len (va_cons (v_var 4) va_nil))))
    (vs_cons (vs_set 8 sc_L_fault.nd (v_tup (va_cons (v_idx hu (v_idx hu (v_var 4) (v_var 5)) v_int) (va_cons (v_idx hu (v_idx hu (v_var 4) (v_var 5)) v_int) (va_cons (v_idx hu (v_lst (va_cons v_int (va_cons (v_sub v_int v_int) (va_cons (v_sub v_int (v_mod (v_var 2) (v_pow v_int v_int))) va_nil)))) (v_mod (v_fdiv (v_var 1) v_int) v_int)) va_nil)))))
    (vs_one (vs_ret (v_tup (va_cons (v_var 3) (va_cons (v_add (v_add (v_sl (v_var 4) vo_none (vo_some (v_var 5))) (v_lst (va_cons (v_var 8) va_nil))) (v_sl (v_var 4) (vo_some (v_add (v_var 5) v_int)) vo_none)) va_nil))))))) vs_nil)
    (vs_one (vs_ret (v_tup (va_cons (v_var 3) (va_cons (v_add (v_add (v_sl (v_var 4) vo_none (vo_some (v_var 5))) (v_lst (va_cons (v_var 8) va_nil))) (v_sl (v_var 4) (vo_some (v_var 5)) vo_none)) va_nil)))))))))))))))))
theorem sc_P_is_house : FnScope N_P_is_house ps_P_is_house (defScope s_P_is_house) := ⟨rfl, rfl, rfl, by decide +kernel, rfl, by decide +kernel, by decide +kernel⟩
theorem ok_P_is_house {f : Addr} {fd : FuncData} (Fn : Fun K "is_house" "is_house" s_P_is_house f fd) : FnOk P w K mg base CX0 1 f fd ps_P_is_house (spV0 K φ_P_is_house 2) :=
  fn_ok (N := N_P_is_house) (ps := ps_P_is_house) (k := 0) (g := g_P_is_house) Fn sc_P_is_house (fun cdv A outer s H E F0 hr => (vs_one (vs_ret (v_chain c_le c_lt v_int (v_var 1) (v_var 0)))))
theorem sc_P_check_path : FnScope N_P_check_path ps_P_check_path (defScope s_P_check_path) := ⟨rfl, rfl, rfl, by decide +kernel, rfl, by decide +kernel, by decide +kernel⟩
theorem ok_P_check_path {f : Addr} {fd : FuncData} (Fn : Fun K "check_path" "check_path" s_P_check_path f fd) {cls : Addr → Addr} (C_P_is_house : Callee P w K mg base 1 "is_house" 2 φ_P_is_house) (ek_NoNet : ExK K (cls 0)) (em_NoNet : mg "NoNet" = some (.ref (cls 0))) : FnOk P w K mg base (CXe P w) 2 f fd ps_P_check_path (spX K cls φ_P_check_path 2) :=
  fn_okX (cls := cls) (N := N_P_check_path) (ps := ps_P_check_path) (k := 1) (g := g_P_check_path) Fn sc_P_check_path (fun cdv A outer s H E F0 hr rz => let hu := room_u hr; (vs_cons (vs_if (vt_w (vw_or (vt_not (vt_val (v_fn C_P_is_house (hr.mono (by decide)) (va_cons (v_var 0) (va_cons (v_idx hu (v_var 1) v_int) va_nil))))) (vw_or1 (vt_not (vt_val (v_fn C_P_is_house (hr.mono (by decide)) (va_cons (v_var 0) (va_cons (v_idx hu (v_var 1) v_int) va_nil)))))))) (vs_one (vs_raise (cls := cls) 0 rz ek_NoNet em_NoNet hr.hd (vmj (jpc (vps 36) (jpc (vpr (v_var 1) hr.gd hr.units) jpn))))) vs_nil)
    (vs_cons (vs_if (vt_cmp (c_eq hu) (v_idx hu (v_var 1) v_int) (v_idx hu (v_var 1) v_int)) (vs_one (vs_raise (cls := cls) 0 rz ek_NoNet em_NoNet hr.hd (vmj (jpc (vps 31) (jpc (vpr (v_var 1) hr.gd hr.units) jpn))))) vs_nil)
    (vs_one (vs_if (vt_w (vw_and (vt_cmp c_notN (v_idx hu (v_var 1) v_int) v_non) (vw_and1 (vt_cmp c_lt (v_idx hu (v_var 1) v_int) v_int)))) (vs_one (vs_raise (cls := cls) 0 rz ek_NoNet em_NoNet hr.hd (vmj (jpc (vps 16) (jpc (vpr (v_var 1) hr.gd hr.units) jpn))))) vs_nil)))))
theorem sc_P_check_net : FnScope N_P_check_net ps_P_check_net (defScope s_P_check_net) := ⟨rfl, rfl, rfl, by decide +kernel, rfl, by decide +kernel, by decide +kernel⟩
theorem ok_P_check_net {f : Addr} {fd : FuncData} (Fn : Fun K "check_net" "check_net" s_P_check_net f fd) {cls : Addr → Addr} (m_len : mg "len" = none) (m_set : mg "set" = none) (g_MOST_HOUSES : ∃ t, mg "MOST_HOUSES" = some (.int 8 t)) (C_P_check_path : CalleeX P w K mg base cls 2 "check_path" 2 φ_P_check_path) (ek_NoNet : ExK K (cls 0)) (em_NoNet : mg "NoNet" = some (.ref (cls 0))) : FnOk P w K mg base (CXe P w) 3 f fd ps_P_check_net (spX K cls φ_P_check_net 1) :=
  fn_okX (cls := cls) (N := N_P_check_net) (ps := ps_P_check_net) (k := 2) (g := g_P_check_net) Fn sc_P_check_net (fun cdv A outer s H E F0 hr rz => let hu := room_u hr; (vs_cons (vs_set 1 sc_P_check_net.nd (v_idx hu (v_var 0) v_int))
    (vs_cons (vs_if (vt_not (vt_chain c_le c_le v_int (v_var 1) (v_glob g_MOST_HOUSES))) (vs_one (vs_raise (cls := cls) 0 rz ek_NoNet em_NoNet hr.hd (vmj (jpc (vps 9) (jpc (vpi (v_glob g_MOST_HOUSES)) (jpc (vps 9) (jpc (vpi (v_var 1)) jpn))))))) vs_nil)
    (vs_cons (vs_for .leaving rfl (vi_list (v_idx hu (v_var 0) v_int)) (vg_name 2 sc_P_check_net.nd)
    (vs_one (vs_expr (v_fnX (cls := cls) rz C_P_check_path (hr.mono (by decide)) (va_cons (v_var 1) (va_cons (v_var 2) va_nil))))))
    (vs_cons (vs_comp 3 (osc := defScope s_P_check_net) (N := N_P_check_net) ["path"] ([none] : List (Option Nat)) [0] rfl rfl sc_P_check_net.nd ⟨rfl, by decide +kernel, by decide +kernel, by decide +kernel, rfl, by decide +kernel⟩ rfl (vi_list (v_idx hu (v_var 0) v_int)) (bo_name 0) (fun _ _ _ _ => ⟨(vg_name 0 (show (["path"] : List Str).Nodup by decide +kernel)), vf_nil, (v_tup (va_cons (v_idx hu (v_var 0) v_int) (va_cons (v_idx hu (v_var 0) v_int) va_nil)))⟩))
    (vs_one (vs_if (vt_cmp c_lt (v_lenset rfl hu m_len m_set (v_var 3)) (v_len m_len (va_cons (v_var 3) va_nil))) (vs_one (vs_raise (cls := cls) 0 rz ek_NoNet em_NoNet hr.hd vms)) vs_nil)))))))
theorem sc_L_refused : FnScope N_L_refused ps_L_refused (defScope s_L_refused) := ⟨rfl, rfl, rfl, by decide +kernel, rfl, by decide +kernel, by decide +kernel⟩
theorem ok_L_refused {f : Addr} {fd : FuncData} (Fn : Fun K "_law_refused" "_law_refused" s_L_refused f fd) {cls : Addr → Addr} {c1 c2 c3 c4 HE C0 : Addr} (m_isinstance : mg "isinstance" = none) (C_P_check_net : CalleeX P w K mg base cls 3 "check_net" 1 φ_P_check_net) (RK : RefK K mg cls c1 c2 c3 c4 HE C0) : FnOk P w K mg base CX0 4 f fd ps_L_refused (spV0 K φ_L_refused 1) := by
  refine Fn.ok (k := 3) sc_L_refused (fun vs H Q E h => by obtain ⟨F, ds, _, r, hl, _⟩ := h; rw [← r.length]; exact hl) (fun cdv A outer s H vs Q E hr hsp => ?_)
  obtain ⟨F, ds, sub, r, hl, m⟩ := hsp
  match ds, hl with
  | [d], _ =>
    rw [Reps] at r
    obtain ⟨v, rest, rfl, r1, r2⟩ := r
    rw [Reps] at r2
    subst r2
    refine ⟨_, pss_cons (ps_set (i := 1) sc_L_refused.nd rfl (.inl rfl) pe_non) (pss_cons (ps_try (i := 2) (j := 1) (F0 := F) (H0 := H) rfl rfl C_P_check_net (hr.mono (by decide)) (fun E Ψ => va_cons (v_var 0) va_nil) sc_L_refused.nd rfl rfl rfl rfl rfl RK.z5 RK.z6)
      (pss_cons (ps_if (PW.pt (pw_or (pt_cmp (pc_isN (pv 1))) (pw_or1 (pt_val (pe_callB call_isX rfl m_isinstance rfl (pa_cons (pv 1) (pa_cons (pe_tup (pa_cons (pe_glob (v := .ref c1) rfl RK.z1 rfl) (pa_cons (pe_glob (v := .ref c2) rfl RK.z2 rfl) (pa_cons (pe_glob (v := .ref c3) rfl RK.z3 rfl) (pa_cons (pe_glob (v := .ref c4) rfl RK.z4 rfl) pa_nil))))) pa_nil))))))) (pss_one (ps_ret pe_bl)) pss_nil)
        (pss_one (ps_ret (pe_and (pe_callB call_isX rfl m_isinstance rfl (pa_cons (pv 1) (pa_cons (pe_glob (v := .ref C0) rfl RK.z7 rfl) pa_nil))) (pe_one (pe_callB call_isX rfl m_isinstance rfl (pa_cons (pv 1) (pa_cons (pe_bltn (v := .ty "ValueError") rfl RK.z8 rfl rfl) pa_nil)))))))) ), ?_⟩
    exact ref_read RK sub r1 m
theorem sc_law : FnScope N_law ps_law (defScope s_law) := ⟨rfl, rfl, rfl, by decide +kernel, rfl, by decide +kernel, by decide +kernel⟩
theorem ok_law {f : Addr} {fd : FuncData} (Fn : Fun K "law" "law" s_law f fd) {cls : Addr → Addr} (m_list : mg "list" = none) (C_L_big_net : Callee P w K mg base 2 "_law_big_net" 1 φ_L_big_net) (C_L_cell_at : Callee P w K mg base 1 "_law_cell_at" 2 φ_L_cell_at) (C_L_fault : Callee P w K mg base 2 "_law_fault" 3 φ_L_fault) (C_L_mix : Callee P w K mg base 1 "_law_mix" 2 φ_L_mix) (C_L_refused : Callee P w K mg base 4 "_law_refused" 1 φ_L_refused) (C_P_check_net : CalleeX P w K mg base cls 3 "check_net" 1 φ_P_check_net) : FnOk P w K mg base CX0 5 f fd ps_law (spV0 K φ_law 1) :=
  fn_ok (N := N_law) (ps := ps_law) (k := 4) (g := g_law) Fn sc_law (fun cdv A outer s H E F0 hr => let hu := room_u hr; (vs_cons (vs_set 1 sc_law.nd (v_fn C_L_big_net (hr.mono (by decide)) (va_cons (v_var 0) va_nil)))
    (vs_cons (vs_set 2 sc_law.nd (v_tup (va_cons (v_idx hu (v_var 1) v_int) (va_cons (v_list m_list (va_cons (v_idx hu (v_var 1) v_int) va_nil)) va_nil))))
    (vs_cons (vs_if (vt_w (vw_or (vt_cmp c_notN (v_fnX (cls := cls) raises0 C_P_check_net (hr.mono (by decide)) (va_cons (v_var 2) va_nil)) v_non) (vw_or1 (vt_cmp (c_ne hu) (v_var 2) (v_var 1))))) (vs_one (vs_ret v_bl)) vs_nil)
    (vs_frz 1 (vs_cons (vs_set 3 sc_law.nd (v_fn C_L_fault (hr.mono (by decide)) (va_cons (v_var 1) (va_cons (v_fn C_L_mix (hr.mono (by decide)) (va_cons (v_fn C_L_cell_at (hr.mono (by decide)) (va_cons (v_var 0) (va_cons v_int va_nil))) (va_cons v_int va_nil))) (va_cons (v_fn C_L_cell_at (hr.mono (by decide)) (va_cons (v_var 0) (va_cons v_int va_nil))) va_nil)))))
    (vs_cons (vs_set 2 sc_law.nd (v_tup (va_cons (v_idx hu (v_var 3) v_int) (va_cons (v_list m_list (va_cons (v_idx hu (v_var 3) v_int) va_nil)) va_nil))))
    (vs_one (vs_ret (v_and (v_fn C_L_refused (hr.mono (by decide)) (va_cons (v_var 2) va_nil)) (v_and (v_fn C_L_refused (hr.mono (by decide)) (va_cons (v_var 2) va_nil)) (v_one (v_cmp (c_eq hu) (v_var 2) (v_var 3))))))))))))))
end

theorem cell_lt {xs : List D} {i : Nat} {d : D} (h : xs[i]? = some d) : φ_L_cell_at [.scr xs, .int i] = .ok .fz d := by
  have hi : i < xs.length := (List.getElem?_eq_some_iff.mp h).1
  simp [φ_L_cell_at, runF_eq, ev0, g_L_cell_at, hi, atI_nat h]
theorem cell_ge {xs : List D} {i : Nat} (h : xs.length ≤ i) (hi : i < 2 ^ 40) : φ_L_cell_at [.scr xs, .int i] = .ok .fz (.int (7 * i + 5)) := by
  have h' : ¬ ((i : Int) < xs.length) := by omega
  simp [φ_L_cell_at, runF_eq, ev0, g_L_cell_at, g_L_cell_at_j1, h', mulD_ok (x := 7) (y := i) (by omega)]
def cellF (ns : List Int) (i : Nat) : Int := (ns[i]?).getD (7 * i + 5)
theorem cell_ok {ns : List Int} {i : Nat} (hi : i < 2 ^ 40) : φ_L_cell_at [.scr (ns.map D.int), .int i] = .ok .fz (.int (cellF ns i)) := by
  unfold cellF
  cases q : ns[i]? with
  | some x => exact cell_lt (by simp [q])
  | none => exact cell_ge (by simpa using q) hi
theorem cell_ok0 {ns : List Int} : φ_L_cell_at [.scr (ns.map D.int), .int 0] = .ok .fz (.int (cellF ns 0)) := cell_ok (i := 0) (by decide)

def mixF (c k : Int) : Int := match φ_L_mix [.int c, .int k] with
  | .ok _ (.int x) => x
  | _ => 0
theorem mix_ex (c k : Int) (h0 : 0 ≤ k) (h1 : k < 2 ^ 20) : ∃ x, φ_L_mix [.int c, .int k] = .ok .fz (.int x) ∧ 0 ≤ x ∧ x < 2 ^ 31 := by
  have k2 : k * k < 2 ^ 40 := by
    have := Int.mul_le_mul (show k ≤ 2 ^ 20 - 1 by omega) (show k ≤ 2 ^ 20 - 1 by omega) h0 (by decide)
    omega
  have k0 : 0 ≤ k * k := Int.mul_nonneg h0 h0
  have e1 : mulD (.int k) (.int k) = some (.fz, .int (k * k)) := mulD_ok (by omega)
  have e2 : mulD (.int (k * k)) (.int 7919) = some (.fz, .int (k * k * 7919)) := mulD_ok (by omega)
  have e3 : mulD (.int (c % 1000003 + k * k * 7919 + k)) (.int 48271) = some (.fz, .int ((c % 1000003 + k * k * 7919 + k) * 48271)) := mulD_ok (by omega)
  generalize hn : (c % 1000003 + k * k * 7919 + k) * 48271 % 2147483629 = n
  have n0 : 0 ≤ n ∧ n < 2147483629 := by omega
  have e4 : mulD (.int n) (.int n) = some (.fz, .int (n * n)) := mulD_ok (by omega)
  generalize hp : n * n % 2147483587 = p
  have p0 : 0 ≤ p ∧ p < 2147483587 := by omega
  refine ⟨p / 7, ?_, by omega, by omega⟩
  simp [φ_L_mix, runF_eq, ev0, g_L_mix, e1, e2, e3, hn, e4, hp]
theorem mix_ok (c k : Int) (h0 : 0 ≤ k) (h1 : k < 2 ^ 20) : φ_L_mix [.int c, .int k] = .ok .fz (.int (mixF c k)) := by
  obtain ⟨x, e, _⟩ := mix_ex c k h0 h1
  unfold mixF; rw [e]
theorem mix_nn (c k : Int) (h0 : 0 ≤ k) (h1 : k < 2 ^ 20) : 0 ≤ mixF c k ∧ mixF c k < 2 ^ 31 := by
  obtain ⟨x, e, h⟩ := mix_ex c k h0 h1
  unfold mixF; rw [e]; exact h

abbrev Path := Nat × Nat × Option Int
def optD : Option Int → D
  | none => .non
  | some m => .int m
def pathD (p : Path) : D := .tup [.int p.1, .int p.2.1, optD p.2.2]
def pairD (p : Path) : D := .tup [.int p.1, .int p.2.1]
def ends (p : Path) : Nat × Nat := (p.1, p.2.1)
structure NetOk (n : Nat) (ps : List Path) : Prop where
  n1 : 1 ≤ n
  n8 : n ≤ 8
  s : ∀ p ∈ ps, p.1 < n
  g : ∀ p ∈ ps, p.2.1 < n
  ne : ∀ p ∈ ps, p.1 ≠ p.2.1
  m : ∀ p ∈ ps, ∀ m, p.2.2 = some m → 1 ≤ m ∧ m ≤ 10 ^ 60
  nd : (ps.map ends).Nodup
theorem emod_nat (a : Int) {n : Nat} (h : 0 < n) : ∃ s : Nat, a % (n : Int) = s ∧ s < n := by
  have h1 := Int.emod_nonneg a (b := n) (by omega)
  have h2 := Int.emod_lt_of_pos a (b := n) (by omega)
  exact ⟨(a % n).toNat, by omega, by omega⟩
theorem pairs_pl (ps : List Path) : plL 60 (ps.map pairD) = true := plL_iff.2 fun d hd => by
  obtain ⟨p, _, rfl⟩ := List.mem_map.1 hd
  simp [pairD, pl, plL]
theorem pair_mem {s g : Nat} {ps : List Path} : D.tup [.int s, .int g] ∈ ps.map pairD ↔ (s, g) ∈ ps.map ends := by
  simp only [List.mem_map, pairD, ends]
  constructor
  · rintro ⟨p, hp, e⟩; simp at e; exact ⟨p, hp, by simp; omega⟩
  · rintro ⟨p, hp, e⟩; simp at e; exact ⟨p, hp, by simp; omega⟩
theorem NetOk.add {n : Nat} {ps : List Path} (h : NetOk n ps) {s g : Nat} {o : Option Int} (hs : s < n) (hg : g < n) (hne : s ≠ g) (hm : ∀ m, o = some m → 1 ≤ m ∧ m ≤ 10 ^ 60) (hn : (s, g) ∉ ps.map ends) : NetOk n (ps ++ [(s, g, o)]) := by
  have spl : ∀ {P : Path → Prop}, (∀ p ∈ ps, P p) → P (s, g, o) → ∀ p ∈ ps ++ [(s, g, o)], P p := fun h1 h2 p hp => by
    rcases List.mem_append.1 hp with hp | hp
    · exact h1 p hp
    · simp at hp; subst hp; exact h2
  refine ⟨h.n1, h.n8, spl h.s hs, spl h.g hg, spl h.ne hne, spl h.m hm, ?_⟩
  rw [List.map_append, List.nodup_append]
  refine ⟨h.nd, by simp, fun x hx y hy => ?_⟩
  simp [ends] at hy
  subst hy
  rintro rfl
  exact hn hx
theorem NetOk.reverse {n : Nat} {ps : List Path} (h : NetOk n ps) : NetOk n ps.reverse :=
  ⟨h.n1, h.n8, fun p hp => h.s p (by simpa using hp), fun p hp => h.g p (by simpa using hp), fun p hp => h.ne p (by simpa using hp), fun p hp => h.m p (by simpa using hp), by rw [List.map_reverse]; exact (List.reverse_perm _).nodup_iff.2 h.nd⟩

theorem pick4 (i a b c : Int) (h0 : 0 ≤ i) (h1 : i < 4) (ha : 1 ≤ a ∧ a ≤ 10 ^ 60) (hb : 1 ≤ b ∧ b ≤ 10 ^ 60) (hc : 1 ≤ c ∧ c ≤ 10 ^ 60) : ∃ o : Option Int, (∀ m, o = some m → 1 ≤ m ∧ m ≤ 10 ^ 60) ∧ atI [.non, .int a, .int b, .int c] i = some (optD o) := by
  have : i = 0 ∨ i = 1 ∨ i = 2 ∨ i = 3 := by omega
  rcases this with rfl | rfl | rfl | rfl
  · exact ⟨none, by simp, by simp [optD]⟩
  · exact ⟨some a, by rintro m ⟨⟩; exact ha, by simp [optD]⟩
  · exact ⟨some b, by rintro m ⟨⟩; exact hb, by simp [optD]⟩
  · exact ⟨some c, by rintro m ⟨⟩; exact hc, by simp [optD]⟩
abbrev evB (S : List D) (num : Int) (n : Nat) (ps : List Path) (l : Ev) : Ev := some (.fz, .scr S) :: some (.fz, .int num) :: some (.fz, .int n) :: some (.ow, .lst (ps.map pathD)) :: some (.ow, .lst (ps.map pairD)) :: l
def InvB (ns : List Int) (num : Int) (n : Nat) (rest : List D) (ev : Ev) : Prop := ∃ ps x5 x6 x7 x8 x9 x10, ev = evB (ns.map D.int) num n ps [x5, x6, x7, x8, x9, x10] ∧ NetOk n ps ∧ ps.length + rest.length ≤ 63 ∧ ∀ d ∈ rest, ∃ i : Nat, d = .int i ∧ i < ns.length
theorem big_j1 {ns : List Int} {num : Int} {n : Nat} {rest : List D} {ps : List Path} {i s : Nat} {dr x t : Int} {x9 x10 : Option (Kd × D)} {h : Ev → Fl} {Q : Fl → Prop} (hn0 : 0 < n) (ok : NetOk n ps) (hlen : ps.length + (rest.length + 1) ≤ 63) (hr : ∀ d ∈ rest, ∃ i : Nat, d = .int i ∧ i < ns.length)
    (hx : atI (ns.map D.int) (i : Int) = some (.int x)) (hd2 : 0 ≤ dr ∧ dr < 2 ^ 31) (hs : s < n) : Wp (g_L_big_net_j1 (evB (ns.map D.int) num n ps [some (.fz, .int i), some (.fz, .int dr), some (.fz, .int s), some (.fz, .int t), x9, x10])) (loopQ (InvB ns num n rest) h Q) := by
  obtain ⟨g, eg, hg⟩ := emod_nat ((s : Int) + t) hn0
  obtain ⟨o, ho, eo⟩ := pick4 (dr / 64 % 4) (1 + dr / 512 % 9) (1 + dr / 512 % 60) (1 + x % (10 ^ 60 - 1)) (by omega) (by omega) (by omega) (by omega) (by omega)
  simp at eo
  have hL : ps.length < LIM := by simp [LIM]; omega
  have hin : notInD (.tup [.int s, .int g]) (.lst (ps.map pairD)) = some (.fz, .bl (decide (D.tup [.int s, .int g] ∉ ps.map pairD))) := notInD_pl rfl (by simp [pl, plL]) (pairs_pl ps)
  simp (disch := first | omega | rfl) [g_L_big_net_j1, eg, hx, eo, hin]
  refine wp_if1 ?_ ?_ <;> intro hq <;> simp (disch := first | omega | rfl) [hL]
  · simp only [Bool.and_eq_true, decide_eq_true_eq, Bool.not_eq_true', decide_eq_false_iff_not] at hq
    have h1 : List.map pathD ps ++ [D.tup [.int s, .int g, optD o]] = (ps ++ [(s, g, o)]).map pathD := by simp [pathD]
    have h2 : List.map pairD ps ++ [D.tup [.int s, .int g]] = (ps ++ [(s, g, o)]).map pairD := by simp [pairD]
    rw [h1, h2]
    exact ⟨ps ++ [(s, g, o)], _, _, _, _, _, _, rfl, ok.add hs hg (by omega) ho (fun z => hq.2 (pair_mem.2 z)), by simp; omega, hr⟩
  · exact ⟨ps, _, _, _, _, _, _, rfl, ok, by omega, hr⟩
theorem big_net_ok (ns : List Int) (hl : ns.length ≤ 63) : ∃ n ps, NetOk n ps ∧ ps.length ≤ 63 ∧ φ_L_big_net [.scr (ns.map D.int)] = .ok .fz (.tup [.int n, .lst (ps.map pathD)]) := by
  have hc := cell_ok0 (ns := ns)
  have hm := mix_ok (cellF ns 0) 1 (by decide) (by decide)
  obtain ⟨n', en, hn'⟩ := emod_nat (mixF (cellF ns 0) 1) (n := 8) (by decide)
  generalize mixF (cellF ns 0) 1 = num at *
  generalize cellF ns 0 = c0 at *
  have en : num % 8 = n' := en
  have en2 : (1 : Int) + num % 8 = ((n' + 1 : Nat) : Int) := by rw [en]; omega
  obtain ⟨n, hn⟩ : ∃ n, n = n' + 1 := ⟨_, rfl⟩
  rw [← hn] at en2
  have hn0 : 0 < n := by omega
  refine run_el (φ_L_big_net [.scr (ns.map D.int)]) rfl ?_
  simp (disch := first | omega | rfl) [ev0, g_L_big_net, hc, hm, en2]
  refine wp_for (InvB ns num n) ?_ ?_ ⟨[], none, none, none, none, none, none, rfl, ⟨by omega, by omega, by simp, by simp, by simp, by simp, by simp⟩, ?_, ?_⟩
  · rintro d rest _ ⟨ps, x5, x6, x7, x8, x9, x10, rfl, ok, hlen, hrest⟩
    obtain ⟨i, rfl, hi⟩ := hrest d (by simp)
    refine ⟨_, rfl, ?_⟩
    have hrest' : ∀ d ∈ rest, ∃ i : Nat, d = .int i ∧ i < ns.length := fun d hd => hrest d (by simp [hd])
    have hx' : atI (ns.map D.int) (i : Int) = some (.int ns[i]) := atI_of (by simp [List.getElem?_eq_getElem hi])
    have hd := mix_ok ns[i] 2 (by decide) (by decide)
    have hd2 := mix_nn ns[i] 2 (by decide) (by decide)
    obtain ⟨s1, es1, hs1⟩ := emod_nat (mixF ns[i] 2) hn0
    obtain ⟨s2, es2, hs2⟩ := emod_nat i hn0
    have hmx : (0 : Int) < max 1 ((n : Int) - 1) := by omega
    simp (disch := first | omega | rfl) [g_L_big_net_b1, hx', hd, es1]
    refine wp_if ?_ ?_ <;> intro hq <;> simp (disch := first | omega | rfl) [es2]
    · exact big_j1 hn0 ok hlen hrest' hx' hd2 hs2
    · exact big_j1 hn0 ok hlen hrest' hx' hd2 hs1
  · rintro _ ⟨ps, x5, x6, x7, x8, x9, x10, rfl, ok, hlen, _⟩
    simp (disch := first | omega | rfl) [g_L_big_net_j2]
    exact ⟨n, ps, ok, by simpa using hlen, rfl, rfl⟩
  · simp [rangeD]; omega
  · intro d hd
    simp [rangeD] at hd
    obtain ⟨a, ha, rfl⟩ := hd
    exact ⟨1 + a, by simp, by omega⟩

def netD (n : Nat) (ps : List Path) : D := .tup [.int n, .lst (ps.map pathD)]
@[simp] theorem optD_n : optD none = .non := (rfl)
@[simp] theorem optD_s {m : Int} : optD (some m) = .int m := (rfl)
theorem opts_pl (T : List (Option Int)) : plL 59 (T.map optD) = true := plL_iff.2 fun d hd => by
  obtain ⟨o, _, rfl⟩ := List.mem_map.1 hd
  cases o <;> simp [pl]
theorem paths_pl (ps : List Path) : plL 58 (ps.map pathD) = true := plL_iff.2 fun d hd => by
  obtain ⟨⟨s, g, o⟩, _, rfl⟩ := List.mem_map.1 hd
  cases o <;> simp [pathD, pl, plL]
theorem net_pl (n : Nat) (ps : List Path) : pl 60 (netD n ps) = true := by
  simp [netD, pl, plL, paths_pl]

/-! nets in general: starts, goals and mosts may be anything -/
abbrev GP := Int × Int × Option Int
def gpD (p : GP) : D := .tup [.int p.1, .int p.2.1, optD p.2.2]
def Sm (x : Int) : Prop := x.natAbs < 10 ^ 62
def SmP (p : GP) : Prop := Sm p.1 ∧ Sm p.2.1 ∧ ∀ m, p.2.2 = some m → Sm m
def BadP (h : Int) (p : GP) : Prop := ¬ (0 ≤ p.1 ∧ p.1 < h) ∨ ¬ (0 ≤ p.2.1 ∧ p.2.1 < h) ∨ p.1 = p.2.1 ∨ ∃ m, p.2.2 = some m ∧ m < 1
def gEnds (p : GP) : Int × Int := (p.1, p.2.1)
theorem log_sm {x : Int} (h : Sm x) : x.natAbs.log2 < 1920 := by
  have : x.natAbs < 2 ^ 1920 := Nat.lt_of_lt_of_le h (by decide +kernel)
  by_cases z : x.natAbs = 0
  · rw [z]; decide
  · exact (Nat.log2_lt z).2 this
theorem txt_sm {x : Int} (h : Sm x) : (PyData.shown (.int x)).length ≤ 1921 := by
  have e := int_text_length_le (a := x) (k := 1920) (by decide) (log_sm h)
  show (Str.ofString (toString x)).length ≤ 1921
  rw [ofString_length]; omega
theorem sh_path {p : GP} (h : SmP p) : shO (py (gpD p)) = true := by
  obtain ⟨a, b, o⟩ := p
  obtain ⟨h1, h2, h3⟩ := h
  change Sm a at h1
  change Sm b at h2
  have l1 := log_sm h1
  have l2 := log_sm h2
  have t1 := txt_sm h1
  have t2 := txt_sm h2
  cases o with
  | none =>
    have e : py (gpD (a, b, none)) = some (.tuple [.int a, .int b, .none]) := rfl
    have tl := tupleText_len_le [PyData.shown (.int a), PyData.shown (.int b), PyData.shown .none]
    have t3 : (PyData.shown .none).length = 4 := by decide +kernel
    simp only [List.map_cons, List.map_nil, List.sum_cons, List.sum_nil, List.length_cons, List.length_nil] at tl
    rw [e]
    have tx : (PyData.shown (.tuple [.int a, .int b, .none])).length ≤ 10000 := by
      show (tupleText [PyData.shown (.int a), PyData.shown (.int b), PyData.shown .none]).length ≤ 10000
      omega
    simp [shO, PyData.showable, PyData.showableAll, PyData.hasDict, PyData.hasDictAll, PyData.depth, PyData.depthAll, l1, l2, tx]
  | some m =>
    have hm := h3 m rfl
    have l3 := log_sm hm
    have t3 := txt_sm hm
    have e : py (gpD (a, b, some m)) = some (.tuple [.int a, .int b, .int m]) := rfl
    have tl := tupleText_len_le [PyData.shown (.int a), PyData.shown (.int b), PyData.shown (.int m)]
    simp only [List.map_cons, List.map_nil, List.sum_cons, List.sum_nil, List.length_cons, List.length_nil] at tl
    rw [e]
    have tx : (PyData.shown (.tuple [.int a, .int b, .int m])).length ≤ 10000 := by
      show (tupleText [PyData.shown (.int a), PyData.shown (.int b), PyData.shown (.int m)]).length ≤ 10000
      omega
    simp [shO, PyData.showable, PyData.showableAll, PyData.hasDict, PyData.hasDictAll, PyData.depth, PyData.depthAll, l1, l2, l3, tx]
theorem house_ok {h x : Int} : φ_P_is_house [.int h, .int x] = .ok .fz (.bl (decide (0 ≤ x ∧ x < h))) := by
  refine run_el (φ_P_is_house [.int h, .int x]) rfl ?_
  by_cases c : 0 ≤ x
  · simp (disch := first | omega | rfl) [ev0, g_P_is_house, c]
  · simp (disch := first | omega | rfl) [ev0, g_P_is_house, c]
theorem path_chk {h : Int} {p : GP} (sm : SmP p) : (BadP h p → φ_P_check_path [.int h, gpD p] = .ex 0) ∧ (¬ BadP h p → φ_P_check_path [.int h, gpD p] = .ok .fz .non) := by
  have p0 : idxD (gpD p) (.int 0) = some (.fz, .int p.1) := by simp [gpD]
  have p1 : idxD (gpD p) (.int 1) = some (.fz, .int p.2.1) := by simp [gpD]
  have p2 : idxD (gpD p) (.int 2) = some (.fz, optD p.2.2) := by simp [gpD]
  have rp : repOkR (.ok .fz (gpD p)) = true := sh_path sm
  have go : ∀ P : R → Prop, (BadP h p → P (.ex 0)) → (¬ BadP h p → P (.ok .fz .non)) → P (φ_P_check_path [.int h, gpD p]) := fun P ok1 ok2 => by
    refine run_el (motive := P) (φ_P_check_path [.int h, gpD p]) rfl ?_
    simp (disch := first | omega | rfl) [ev0, g_P_check_path, p0, p1, house_ok]
    refine wp_if (fun c => ?_) (fun c => ?_)
    · simp (disch := first | omega | rfl) [pAnd, pT, pRep, rp]
      refine ok1 ?_
      simp at c
      unfold BadP
      rcases c with c | c
      · exact .inl (by omega)
      · exact .inr (.inl (by omega))
    · simp at c
      obtain ⟨c1, c2⟩ := c
      simp (disch := first | omega | rfl) [g_P_check_path_j2, p0, p1]
      refine wp_if (fun d => ?_) (fun d => ?_)
      · simp (disch := first | omega | rfl) [pAnd, pT, pRep, rp]
        exact ok1 (.inr (.inr (.inl (by simpa using d))))
      · have d : p.1 ≠ p.2.1 := by simpa using d
        cases q : p.2.2 with
        | none =>
          simp (disch := first | omega | rfl) [g_P_check_path_j1, p2, q]
          refine ok2 ?_
          rintro (z | z | z | ⟨m, z, _⟩)
          · exact z c1
          · exact z c2
          · exact d z
          · rw [q] at z; cases z
        | some m =>
          simp (disch := first | omega | rfl) [g_P_check_path_j1, p2, q]
          refine wp_if1 (fun y => ?_) (fun y => ?_)
          · simp (disch := first | omega | rfl) [pAnd, pT, pRep, rp]
            exact ok1 (.inr (.inr (.inr ⟨m, q, by simpa using y⟩)))
          · simp (disch := first | omega | rfl) []
            refine ok2 ?_
            rintro (z | z | z | ⟨m', z, w⟩)
            · exact z c1
            · exact z c2
            · exact d z
            · rw [q] at z; cases z
              simp at y; omega
  exact ⟨fun b => go (fun r => r = .ex 0) (fun _ => rfl) (fun n => absurd b n), fun b => go (fun r => r = .ok .fz .non) (fun n => absurd n b) (fun _ => rfl)⟩

/-! the check of a net, good or bad -/
theorem fd_le {κ : Type} [DecidableEq κ] : ∀ (l a : List κ), (l.foldl (fun ds k => if k ∈ ds then ds else ds ++ [k]) a).length ≤ a.length + l.length
  | [], a => by simp
  | x :: l, a => by
    rw [List.foldl_cons]
    split
    · have := fd_le l a; simp only [List.length_cons]; omega
    · have := fd_le l (a ++ [x]); simp only [List.length_cons, List.length_append, List.length_nil] at this ⊢; omega
theorem fd_nd {κ : Type} [DecidableEq κ] : ∀ (l a : List κ), a.Nodup → (l.foldl (fun ds k => if k ∈ ds then ds else ds ++ [k]) a).length = a.length + l.length → (a ++ l).Nodup
  | [], a, n, _ => by simpa using n
  | x :: l, a, n, e => by
    rw [List.foldl_cons] at e
    split at e
    · have := fd_le l a; simp only [List.length_cons] at e; omega
    · rename_i hx
      have := fd_nd l (a ++ [x]) (by rw [List.nodup_append]; exact ⟨n, by simp, fun y hy z hz q => hx (by simp at hz; rw [← hz, ← q]; exact hy)⟩) (by simp only [List.length_cons, List.length_append, List.length_nil] at e ⊢; omega)
      simpa using this
theorem dd_same {κ : Type} [DecidableEq κ] {l : List κ} (h : l.Nodup) : (ST.dd l).length = l.length := by
  have : ∀ (l a : List κ), (a ++ l).Nodup → l.foldl (fun ds k => if k ∈ ds then ds else ds ++ [k]) a = a ++ l := fun l => by
    induction l with
    | nil => intro a _; simp
    | cons x l ih =>
      intro a ha
      have hx : x ∉ a := fun z => by
        rw [List.nodup_append] at ha
        exact ha.2.2 x z x (by simp) rfl
      rw [List.foldl_cons, if_neg hx, ih (a ++ [x]) (by simpa using ha)]
      simp
  have := this l [] (by simpa using h)
  simp [ST.dd, this]
theorem dd_less {κ : Type} [DecidableEq κ] {l : List κ} (h : ¬ l.Nodup) : (ST.dd l).length < l.length := by
  have a := fd_le l []
  have b : ¬ (ST.dd l).length = l.length := fun e => h (by simpa using fd_nd l [] (by simp) (by simpa [ST.dd] using e))
  have a : (ST.dd l).length ≤ l.length := by simpa [ST.dd] using a
  omega
def Bad (h : Int) (l : List GP) : Prop := ¬ (1 ≤ h ∧ h ≤ 8) ∨ (∃ p ∈ l, BadP h p) ∨ ¬ (l.map gEnds).Nodup
def gnD (h : Int) (l : List GP) : D := .tup [.int h, .lst (l.map gpD)]
def kG (p : GP) : List Key := [.inl p.1, .inl p.2.1]
theorem kG_nd {l : List GP} : (l.map kG).Nodup ↔ (l.map gEnds).Nodup := by
  have : l.map kG = (l.map gEnds).map fun x => ([.inl x.1, .inl x.2] : List Key) := by rw [List.map_map]; rfl
  rw [this]
  generalize l.map gEnds = m
  constructor
  · exact fun z => List.Pairwise.of_map _ (fun a b h e => h (by rw [e])) z
  · intro z
    refine List.Pairwise.map _ (fun a b h e => h ?_) z
    obtain ⟨a1, a2⟩ := a; obtain ⟨b1, b2⟩ := b
    simp at e
    rw [e.1, e.2]
def InvN (h : Int) (l : List GP) (xs : List GP) (ev : Ev) : Prop := ∃ x2 pre, ev = [some (.fz, gnD h l), some (.fz, .int h), x2, none] ∧ l = pre ++ xs ∧ ∀ p ∈ pre, ¬ BadP h p
theorem net_chk {h : Int} {l : List GP} (sh : Sm h) (sl : ∀ p ∈ l, SmP p) (hl : l.length ≤ 200) : ∀ P : R → Prop, (Bad h l → P (.ex 0)) → (¬ Bad h l → P (.ok .fz .non)) → P (φ_P_check_net [gnD h l]) := fun P ok1 ok2 => by
  have e0 : idxD (gnD h l) (.int 0) = some (.fz, .int h) := by simp [gnD]
  have e1 : idxD (gnD h l) (.int 1) = some (.fz, .lst (l.map gpD)) := by simp [gnD]
  have ls := log_sm sh
  have l8 : ((8 : Int).natAbs.log2 < 1920) := by decide
  have hc := compO_map (b := bName 0) (e := eTup (aCons (eOp idxD (varR 0) (conR (.int 0))) (aCons (eOp idxD (varR 0) (conR (.int 1))) aNil))) (ev := [none]) (enc := gpD) (l := l) (fun p => .tup [.int p.1, .int p.2.1]) (by simp [LIM]; omega) (fun p _ => by
    refine ⟨_, rfl, .fz, by simp, ?_⟩
    simp (disch := first | omega | rfl) [gpD])
  have hk : keysL (l.map fun p : GP => D.tup [.int p.1, .int p.2.1]) = some (l.map kG) := by
    clear hc sl hl ok1 ok2 e0 e1
    induction l with
    | nil => rfl
    | cons p l ih => simp only [List.map_cons, keysL, ih]; simp [kG]
  have lk := lenSetD_ok hk (by simp; omega)
  refine run_el (motive := P) (φ_P_check_net [gnD h l]) rfl ?_
  obtain ⟨gg, hgg⟩ : ∃ gg, gg = g_P_check_net_b1 := ⟨_, rfl⟩
  by_cases c1 : 1 ≤ h ∧ h ≤ 8
  · obtain ⟨c1, c2⟩ := c1
    simp (disch := first | omega | rfl) [ev0, g_P_check_net, e0, c1, c2, g_P_check_net_j2, e1]
    rw [← hgg]
    refine wp_forM (InvN h l) ?_ ?_ ⟨none, [], rfl, rfl, by simp⟩
    · rintro p xs _ - ⟨x2, pre, rfl, hp, hg⟩
      have hm : p ∈ l := by rw [hp]; simp
      obtain ⟨q1, q2⟩ := path_chk (h := h) (sl p hm)
      refine ⟨_, rfl, ?_⟩
      by_cases b : BadP h p
      · simp (disch := first | omega | rfl) [hgg, g_P_check_net_b1, q1 b]
        exact ok1 (.inr (.inl ⟨p, hm, b⟩))
      · simp (disch := first | omega | rfl) [hgg, g_P_check_net_b1, q2 b]
        exact ⟨_, pre ++ [p], rfl, by simp [hp], fun q hq => by
          rcases List.mem_append.1 hq with hq | hq
          · exact hg q hq
          · simp at hq; rw [hq]; exact b⟩
    · rintro _ ⟨x2, pre, rfl, hp, hg⟩
      rw [List.append_nil] at hp
      subst hp
      by_cases nd : (l.map gEnds).Nodup
      · have dl := dd_same (kG_nd.2 nd)
        rw [List.length_map] at dl
        rw [dl] at lk
        simp (disch := first | omega | rfl) [g_P_check_net_j1, e1, hc, lk]
        refine ok2 ?_
        rintro (z | ⟨p, hp, z⟩ | z)
        · exact z ⟨c1, c2⟩
        · exact hg p hp z
        · exact z nd
      · have dl := dd_less (fun z => nd (kG_nd.1 z))
        rw [List.length_map] at dl
        have dl' : ((ST.dd (l.map kG)).length : Int) < l.length := by omega
        simp (disch := first | omega | rfl) [g_P_check_net_j1, e1, hc, lk, dl']
        exact ok1 (.inr (.inr nd))
  · have bad : Bad h l := .inl c1
    by_cases d : 1 ≤ h
    · have d2 : ¬ h ≤ 8 := fun z => c1 ⟨d, z⟩
      simp (disch := first | omega | rfl) [ev0, g_P_check_net, e0, d, d2, pAnd, pT, pInt, ls, l8]
      exact ok1 bad
    · simp (disch := first | omega | rfl) [ev0, g_P_check_net, e0, d, pAnd, pT, pInt, ls, l8]
      exact ok1 bad

/-! the law's faults -/
def toG (p : Path) : GP := ((p.1 : Int), (p.2.1 : Int), p.2.2)
theorem net_gn {n : Nat} {ps : List Path} : netD n ps = gnD n (ps.map toG) := by
  simp only [netD, gnD, List.map_map]; rfl
def FQ (r : R) : Prop := ∃ h l, r = .ok .fz (gnD h l) ∧ Sm h ∧ (∀ p ∈ l, SmP p) ∧ l.length ≤ 200 ∧ Bad h l
theorem sm_of {x : Int} (h : -10 ^ 61 ≤ x) (h' : x ≤ 10 ^ 61) : Sm x := by unfold Sm; omega
theorem pkL (P : Int → Prop) : ∀ (xs : List Int) (i : Int), 0 ≤ i → i < xs.length → (∀ x ∈ xs, P x) → ∃ x, P x ∧ atI (xs.map D.int) i = some (.int x) := fun xs i h0 h1 hp => by
  obtain ⟨k, rfl⟩ : ∃ k : Nat, i = k := ⟨i.toNat, by omega⟩
  have hk : k < xs.length := by omega
  exact ⟨xs[k], hp _ (List.getElem_mem hk), atI_of (by simp [hk])⟩
section
variable {n k : Nat} {nu c : Int} {L : List GP} {q : GP} {x0 x6 x7 x9 : Option (Kd × D)}
abbrev evF (x0 : Option (Kd × D)) (nu c : Int) (n : Nat) (L : List GP) (k : Nat) (l : Ev) : Ev := x0 :: some (.fz, .int nu) :: some (.fz, .int c) :: some (.fz, .int n) :: some (.fz, .lst (L.map gpD)) :: some (.fz, .int k) :: l
theorem cutA : cutG (L.map gpD) none (some (k : Int)) = (L.take k).map gpD := by rw [List.map_take]; exact cut_upto _ k
theorem cutB : cutG (L.map gpD) (some (k : Int)) none = (L.drop k).map gpD := by rw [List.map_drop]; exact cut_from _ k
theorem bad_put {A B : List GP} (h : BadP n q ∨ gEnds q ∈ (A ++ B).map gEnds) : Bad n (A ++ [q] ++ B) := by
  rcases h with h | h
  · exact .inr (.inl ⟨q, by simp, h⟩)
  · refine .inr (.inr fun nd => ?_)
    rw [List.map_append, List.map_append] at nd
    rw [List.map_append] at h
    have p : (A.map gEnds ++ [gEnds q] ++ B.map gEnds).Perm (gEnds q :: (A.map gEnds ++ B.map gEnds)) := by
      simpa using List.perm_middle
    have := (p.nodup_iff.1 nd)
    rw [List.nodup_cons] at this
    exact this.1 h
theorem f_j1 (sL : ∀ p ∈ L, SmP p) (ll : L.length ≤ 63) (n8 : n ≤ 8) (sq : SmP q) (b : BadP n q ∨ gEnds q ∈ L.map gEnds) : Wp (g_L_fault_j1 (evF x0 nu c n L k [x6, x7, some (.fz, gpD q), x9])) (runQ FQ) := by
  have l1 : ((L.take k).map gpD).length + [gpD q].length ≤ LIM := by simp [LIM]; omega
  have l2 : ((L.take k).map gpD ++ [gpD q]).length + ((L.drop k).map gpD).length ≤ LIM := by simp [LIM]; omega
  have e : (L.take k).map gpD ++ [gpD q] ++ (L.drop k).map gpD = (L.take k ++ [q] ++ L.drop k).map gpD := by simp
  have l1' : min k L.length + 1 ≤ LIM := by simp [LIM]; omega
  simp (disch := first | omega | rfl) [g_L_fault_j1, cutA, cutB, l1']
  have l2' : min k L.length + 1 + (L.length - k) ≤ LIM := by simp [LIM]; omega
  simp (disch := first | omega | rfl) [l2']
  exact ⟨n, L.take k ++ [q] ++ L.drop k, by simp [gnD], sm_of (by omega) (by omega), fun p hp => by
    simp at hp
    rcases hp with hp | rfl | hp
    · exact sL p (List.mem_of_mem_take hp)
    · exact sq
    · exact sL p (List.mem_of_mem_drop hp), by simp; omega, bad_put (by rw [List.take_append_drop]; exact b)⟩
theorem cutC : cutG (L.map gpD) (some ((k : Int) + 1)) none = (L.drop (k + 1)).map gpD := by rw [List.map_drop]; exact cut_from _ (k + 1)
theorem gp0 : idxD (gpD q) (.int 0) = some (.fz, .int q.1) := by simp [gpD]
theorem gp1 : idxD (gpD q) (.int 1) = some (.fz, .int q.2.1) := by simp [gpD]
theorem at_L {i : Int} (h : 0 < L.length) : ∃ (j : Nat) (p : GP), i % (L.length : Int) = j ∧ j < L.length ∧ p ∈ L ∧ atI (L.map gpD) (j : Int) = some (gpD p) := by
  obtain ⟨j, e, hj⟩ := emod_nat i h
  exact ⟨j, L[j], e, hj, List.getElem_mem hj, atI_of (by simp [hj])⟩
theorem f_j2 {w : Int} (sL : ∀ p ∈ L, SmP p) (ll : L.length ≤ 63) (n8 : n ≤ 8) (sq : SmP q) (b : (w = 5 ∧ 0 < L.length) ∨ BadP n q ∨ gEnds q ∈ L.map gEnds) : Wp (g_L_fault_j2 (evF x0 nu c n L k [some (.fz, .int w), x7, some (.fz, gpD q), x9])) (runQ FQ) := by
  simp (disch := first | omega | rfl) [g_L_fault_j2]
  refine wp_if (fun d => ?_) (fun d => ?_)
  · simp at d
    obtain ⟨rfl, hl⟩ := d
    obtain ⟨j, p, ej, hj, hp, hat⟩ := at_L (i := nu / 192) hl
    obtain ⟨x, hx, ex⟩ := pkL (fun x => x < 1 ∧ -10 ^ 60 ≤ x) [0, -1, -(c % 10 ^ 60)] (nu / 6 % 3) (by omega) (by simp; omega) (by simp; omega)
    simp at ex
    have hl' : (0 : Int) < L.length := by omega
    have l1' : min j L.length + 1 ≤ LIM := by simp [LIM]; omega
    have l3' : j + 1 ≤ LIM := by simp [LIM]; omega
    have l5' : L.length ≤ LIM := by simp only [LIM]; omega
    simp (disch := first | omega | rfl) [modD_ok hl', ej, hat, gp0, gp1, ex, cutA, cutC, l1', l3', l5']
    refine ⟨n, L.take j ++ [(p.1, p.2.1, some x)] ++ L.drop (j + 1), by simp [gnD, gpD], sm_of (by omega) (by omega), fun r hr => ?_, by simp; omega, .inr (.inl ⟨(p.1, p.2.1, some x), by simp, .inr (.inr (.inr ⟨x, rfl, hx.1⟩))⟩)⟩
    simp at hr
    rcases hr with hr | rfl | hr
    · exact sL r (List.mem_of_mem_take hr)
    · exact ⟨(sL p hp).1, (sL p hp).2.1, fun m e => by cases e; exact sm_of (by omega) (by omega)⟩
    · exact sL r (List.mem_of_mem_drop hr)
  · simp (disch := first | omega | rfl) []
    refine f_j1 sL ll n8 sq (b.resolve_left ?_)
    rintro ⟨rfl, hl⟩
    simp [hl] at d
theorem f_j3 {w : Int} (sL : ∀ p ∈ L, SmP p) (ll : L.length ≤ 63) (n8 : n ≤ 8) (sq : SmP q) (b : BadP n q) : Wp (g_L_fault_j3 (evF x0 nu c n L k [some (.fz, .int w), x7, some (.fz, gpD q), x9])) (runQ FQ) := by
  simp (disch := first | omega | rfl) [g_L_fault_j3]
  refine wp_if (fun d => ?_) (fun d => ?_)
  · simp at d
    obtain ⟨hw, hl⟩ := d
    obtain ⟨j, p, ej, hj, hp, hat⟩ := at_L (i := nu / 192) hl
    have hl' : (0 : Int) < L.length := by omega
    obtain ⟨o, ho, eo⟩ := pick4 (nu / 6 % 4) 1 2 (10 ^ 30) (by omega) (by omega) (by omega) (by omega) (by omega)
    simp at eo
    simp (disch := first | omega | rfl) [modD_ok hl', ej, hat, gp0, gp1, eo]
    exact f_j2 (q := (p.1, p.2.1, o)) sL ll n8 ⟨(sL p hp).1, (sL p hp).2.1, fun m e => by have := ho m e; exact sm_of (by omega) (by omega)⟩ (.inr (.inr (List.mem_map.2 ⟨p, hp, rfl⟩)))
  · simp (disch := first | omega | rfl) []
    exact f_j2 sL ll n8 sq (.inr (.inl b))
theorem no_house_ok {m : Int} (n8 : n ≤ 8) : ∃ x : Int, φ_L_no_house [.int n, .int m, .int c] = .ok .fz (.int x) ∧ Sm x ∧ (x < 0 ∨ n ≤ x) := by
  obtain ⟨x, hx, ex⟩ := pkL (fun x => Sm x ∧ (x < 0 ∨ (n : Int) ≤ x)) [-1, n, n + 1 + c % 10 ^ 30, -2 - c % 10 ^ 30] (m % 4) (by omega) (by simp; omega) (by
    intro x hx
    simp at hx
    rcases hx with rfl | rfl | rfl | rfl
    · exact ⟨sm_of (by omega) (by omega), .inl (by omega)⟩
    · exact ⟨sm_of (by omega) (by omega), .inr (by omega)⟩
    · exact ⟨sm_of (by omega) (by omega), .inr (by omega)⟩
    · exact ⟨sm_of (by omega) (by omega), .inl (by omega)⟩)
  simp at ex
  refine ⟨x, ?_, hx⟩
  refine run_el (φ_L_no_house [.int n, .int m, .int c]) rfl ?_
  simp (disch := first | omega | rfl) [ev0, g_L_no_house, ex]
theorem f_j4 {w so : Int} (sL : ∀ p ∈ L, SmP p) (ll : L.length ≤ 63) (n8 : n ≤ 8) (hso : 0 ≤ so ∧ so < n) (sq : SmP q) (b : BadP n q) : Wp (g_L_fault_j4 (evF x0 nu c n L k [some (.fz, .int w), some (.fz, .int so), some (.fz, gpD q), x9])) (runQ FQ) := by
  obtain ⟨x, hx, sx, bx⟩ := no_house_ok (n := n) (m := nu / 6) (c := c) n8
  simp (disch := first | omega | rfl) [g_L_fault_j4]
  refine wp_if (fun d => ?_) (fun d => ?_)
  · simp (disch := first | omega | rfl) [hx]
    have ss : Sm so := sm_of (by omega) (by omega)
    exact f_j3 (q := (so, x, none)) sL ll n8 ⟨ss, sx, fun m e => by cases e⟩ (.inr (.inl (by simp; omega)))
  · simp (disch := first | omega | rfl) []
    exact f_j3 sL ll n8 sq b
theorem f_j5 {w : Int} (sL : ∀ p ∈ L, SmP p) (ll : L.length ≤ 63) (n1 : 1 ≤ n) (n8 : n ≤ 8) : Wp (g_L_fault_j5 (evF x0 nu c n L k [some (.fz, .int w), none, none, none])) (runQ FQ) := by
  obtain ⟨x, hx, sx, bx⟩ := no_house_ok (n := n) (m := nu / 6) (c := c) n8
  obtain ⟨so, eso, hso⟩ := emod_nat (nu / 24) (n := n) (by omega)
  have n0 : (0 : Int) < n := by omega
  have ss : Sm (so : Int) := sm_of (by omega) (by omega)
  simp (disch := first | omega | rfl) [g_L_fault_j5, modD_ok n0, eso]
  refine wp_if (fun d => ?_) (fun d => ?_)
  · simp (disch := first | omega | rfl) [hx]
    exact f_j4 (q := (x, so, some 1)) sL ll n8 ⟨by omega, by omega⟩ ⟨sx, ss, fun m e => by cases e; exact sm_of (by omega) (by omega)⟩ (.inl (by simp; omega))
  · simp (disch := first | omega | rfl) []
    exact f_j4 (q := (so, so, some (1 + c % 9))) sL ll n8 ⟨by omega, by omega⟩ ⟨ss, ss, fun m e => by cases e; exact sm_of (by omega) (by omega)⟩ (.inr (.inr (.inl rfl)))
theorem fault_gn (sL : ∀ p ∈ L, SmP p) (ll : L.length ≤ 63) (n1 : 1 ≤ n) (n8 : n ≤ 8) : FQ (φ_L_fault [gnD n L, .int nu, .int c]) := by
  refine run_el (motive := FQ) (φ_L_fault [gnD n L, .int nu, .int c]) rfl ?_
  obtain ⟨k, ek, hk⟩ := emod_nat (nu / 24) (n := L.length + 1) (by omega)
  have ek : nu / 24 % ((L.length : Int) + 1) = k := by rw [← ek]; simp
  simp (disch := first | omega | rfl) [ev0, g_L_fault, gnD, ek]
  refine wp_if (fun d => ?_) (fun d => ?_)
  · obtain ⟨x, hx, ex⟩ := pkL (fun x => x < 1 ∧ -10 ^ 60 ≤ x) [0, -1, -(c % 10 ^ 30)] (nu / 18 % 3) (by omega) (by simp; omega) (by simp; omega)
    simp at ex
    simp (disch := first | omega | rfl) [ex]
    exact ⟨x, [], rfl, sm_of (by omega) (by omega), by simp, by simp, .inl (by omega)⟩
  · simp (disch := first | omega | rfl) [g_L_fault_j6]
    refine wp_if (fun d => ?_) (fun d => ?_)
    · obtain ⟨x, hx, ex⟩ := pkL (fun x => 9 ≤ x ∧ x ≤ 10 ^ 60) [9, 9 + c % 10 ^ 30] (nu / 18 % 2) (by omega) (by simp; omega) (by simp; omega)
      simp at ex
      simp (disch := first | omega | rfl) [ex]
      exact ⟨x, L, rfl, sm_of (by omega) (by omega), sL, by omega, .inl (by omega)⟩
    · simp (disch := first | omega | rfl) []
      exact f_j5 sL ll n1 n8
end

/-! the law: nets refused -/
theorem gn_pl {h : Int} {l : List GP} : pl 60 (gnD h l) = true := by
  have : plL 58 (l.map gpD) = true := plL_iff.2 fun d hd => by
    obtain ⟨⟨a, b, o⟩, _, rfl⟩ := List.mem_map.1 hd
    cases o <;> simp [gpD, pl, plL]
  simp [gnD, pl, plL, this]
theorem law_ok (ns : List Int) (hl : ns.length ≤ 63) : φ_law [.scr (ns.map D.int)] = .ok .fz (.bl true) := by
  obtain ⟨n, ps, ok, hps, hnet⟩ := big_net_ok ns hl
  have hc0 := cell_ok0 (ns := ns)
  have hc1 := cell_ok (ns := ns) (i := 1) (by decide)
  have hc1 : φ_L_cell_at [.scr (ns.map D.int), .int 1] = .ok .fz (.int (cellF ns 1)) := hc1
  have hm := mix_ok (cellF ns 0) 3 (by decide) (by decide)
  have hg : D.tup [.int n, .lst (ps.map pathD)] = gnD n (ps.map toG) := net_gn
  rw [hg] at hnet
  have sL : ∀ p ∈ ps.map toG, SmP p := fun p hp => by
    obtain ⟨q, hq, rfl⟩ := List.mem_map.1 hp
    have a := ok.s q hq
    have b := ok.g q hq
    have n8 := ok.n8
    exact ⟨sm_of (by show (-10 ^ 61 : Int) ≤ (q.1 : Int); omega) (by show (q.1 : Int) ≤ 10 ^ 61; omega), sm_of (by show (-10 ^ 61 : Int) ≤ (q.2.1 : Int); omega) (by show (q.2.1 : Int) ≤ 10 ^ 61; omega), fun m e => by have := ok.m q hq m e; exact sm_of (by omega) (by omega)⟩
  have ll : (ps.map toG).length ≤ 63 := by simpa using hps
  have n1 := ok.n1
  have n8 := ok.n8
  have good : ¬ Bad n (ps.map toG) := by
    rintro (z | ⟨p, hp, z⟩ | z)
    · exact z ⟨by omega, by omega⟩
    · obtain ⟨q, hq, rfl⟩ := List.mem_map.1 hp
      have a := ok.s q hq
      have b := ok.g q hq
      have d := ok.ne q hq
      rcases z with z | z | z | ⟨m, e, y⟩
      · exact z ⟨by show (0 : Int) ≤ (q.1 : Int); omega, by show (q.1 : Int) < n; omega⟩
      · exact z ⟨by show (0 : Int) ≤ (q.2.1 : Int); omega, by show (q.2.1 : Int) < n; omega⟩
      · exact d (by have : (q.1 : Int) = (q.2.1 : Int) := z; omega)
      · have := ok.m q hq m e; omega
    · refine z ?_
      rw [List.map_map]
      have e : ps.map (gEnds ∘ toG) = (ps.map ends).map fun x => ((x.1 : Int), (x.2 : Int)) := by rw [List.map_map]; rfl
      rw [e]
      refine List.Pairwise.map _ (fun a b h e => h ?_) ok.nd
      obtain ⟨a1, a2⟩ := a; obtain ⟨b1, b2⟩ := b
      simp only [Prod.mk.injEq] at e ⊢
      exact ⟨by omega, by omega⟩
  have cg := net_chk (h := n) (sm_of (by omega) (by omega)) sL (by omega) (fun r => r = .ok .fz .non) (fun z => absurd z good) (fun _ => rfl)
  generalize hL : ps.map toG = L at *
  obtain ⟨h', l', ef, sh, sl', ll', bad⟩ := fault_gn (n := n) (nu := mixF (cellF ns 0) 3) (c := cellF ns 1) sL ll n1 n8
  have cb := net_chk (h := h') (l := l') sh sl' ll' (fun r => r = .ex 0) (fun _ => rfl) (fun z => absurd bad z)
  have rb : φ_L_refused [gnD h' l'] = .ok .fz (.bl true) := by
    show refR (φ_P_check_net [gnD h' l']) = _
    rw [cb]; rfl
  have g0 : idxD (gnD n L) (.int 0) = some (.fz, .int n) := by simp [gnD]
  have g1 : idxD (gnD n L) (.int 1) = some (.fz, .lst (L.map gpD)) := by simp [gnD]
  have b0 : idxD (gnD h' l') (.int 0) = some (.fz, .int h') := by simp [gnD]
  have b1 : idxD (gnD h' l') (.int 1) = some (.fz, .lst (l'.map gpD)) := by simp [gnD]
  have t1 : D.tup [.int n, .lst (L.map gpD)] = gnD n L := rfl
  have t2 : D.tup [.int h', .lst (l'.map gpD)] = gnD h' l' := rfl
  have nT : neD (gnD n L) (gnD n L) = some (.fz, .bl false) := by rw [neD_pl gn_pl gn_pl]; simp
  have eT : eqD (gnD h' l') (gnD h' l') = some (.fz, .bl true) := by rw [eqD_pl gn_pl gn_pl]; simp
  refine run_el (φ_law [.scr (ns.map D.int)]) rfl ?_
  simp (disch := first | omega | rfl) [ev0, g_law, hnet, g0, g1, t1, cg, nT, g_law_j1, hc0, hc1, hm, ef, b0, b1, t2, rb, eT]

theorem all_mk {l : PySem.W.OpenLaw} {w : World} {K : PySem.W.Frag} {h : Heap} {mg : Str → Option Value} {fa f0 f1 f2 f3 f4 f5 f6 f7 f8 f9 : Addr} (X : K.In h) (G : h.Ns mainGlobals mg) (hfa : mg "law" = some (.ref fa))
    {od0 an0 : Option Addr} {sl0 : Array (Option Value)} {oc0 kV0 dc0 pm0 cd0 ct0 : Value}
    (a0 : PySem.W.nsIn K mainGlobals "_law_cell_at" = some (some (.ref f0))) (l0 : K.lookup f0 = some ⟨oc0, od0, .func (PySem.W.fnOf "_law_cell_at" "_law_cell_at" (defArgs s_L_cell_at) (defBody s_L_cell_at) (defScope s_L_cell_at) .none kV0 dc0 pm0 an0 cd0 ct0), sl0⟩) (c0 : PySem.W.codeIn K cd0 "_law_cell_at" = true) (k0 : PySem.W.keepIn K (.ref f0) = true)
    {od1 an1 : Option Addr} {sl1 : Array (Option Value)} {oc1 kV1 dc1 pm1 cd1 ct1 : Value}
    (a1 : PySem.W.nsIn K mainGlobals "_law_mix" = some (some (.ref f1))) (l1 : K.lookup f1 = some ⟨oc1, od1, .func (PySem.W.fnOf "_law_mix" "_law_mix" (defArgs s_L_mix) (defBody s_L_mix) (defScope s_L_mix) .none kV1 dc1 pm1 an1 cd1 ct1), sl1⟩) (c1 : PySem.W.codeIn K cd1 "_law_mix" = true) (k1 : PySem.W.keepIn K (.ref f1) = true)
    {od2 an2 : Option Addr} {sl2 : Array (Option Value)} {oc2 kV2 dc2 pm2 cd2 ct2 : Value}
    (a2 : PySem.W.nsIn K mainGlobals "_law_big_net" = some (some (.ref f2))) (l2 : K.lookup f2 = some ⟨oc2, od2, .func (PySem.W.fnOf "_law_big_net" "_law_big_net" (defArgs s_L_big_net) (defBody s_L_big_net) (defScope s_L_big_net) .none kV2 dc2 pm2 an2 cd2 ct2), sl2⟩) (c2 : PySem.W.codeIn K cd2 "_law_big_net" = true) (k2 : PySem.W.keepIn K (.ref f2) = true)
    {od3 an3 : Option Addr} {sl3 : Array (Option Value)} {oc3 kV3 dc3 pm3 cd3 ct3 : Value}
    (a3 : PySem.W.nsIn K mainGlobals "_law_no_house" = some (some (.ref f3))) (l3 : K.lookup f3 = some ⟨oc3, od3, .func (PySem.W.fnOf "_law_no_house" "_law_no_house" (defArgs s_L_no_house) (defBody s_L_no_house) (defScope s_L_no_house) .none kV3 dc3 pm3 an3 cd3 ct3), sl3⟩) (c3 : PySem.W.codeIn K cd3 "_law_no_house" = true) (k3 : PySem.W.keepIn K (.ref f3) = true)
    {od4 an4 : Option Addr} {sl4 : Array (Option Value)} {oc4 kV4 dc4 pm4 cd4 ct4 : Value}
    (a4 : PySem.W.nsIn K mainGlobals "_law_fault" = some (some (.ref f4))) (l4 : K.lookup f4 = some ⟨oc4, od4, .func (PySem.W.fnOf "_law_fault" "_law_fault" (defArgs s_L_fault) (defBody s_L_fault) (defScope s_L_fault) .none kV4 dc4 pm4 an4 cd4 ct4), sl4⟩) (c4 : PySem.W.codeIn K cd4 "_law_fault" = true) (k4 : PySem.W.keepIn K (.ref f4) = true)
    {od5 an5 : Option Addr} {sl5 : Array (Option Value)} {oc5 kV5 dc5 pm5 cd5 ct5 : Value}
    (a5 : PySem.W.nsIn K mainGlobals "is_house" = some (some (.ref f5))) (l5 : K.lookup f5 = some ⟨oc5, od5, .func (PySem.W.fnOf "is_house" "is_house" (defArgs s_P_is_house) (defBody s_P_is_house) (defScope s_P_is_house) .none kV5 dc5 pm5 an5 cd5 ct5), sl5⟩) (c5 : PySem.W.codeIn K cd5 "is_house" = true) (k5 : PySem.W.keepIn K (.ref f5) = true)
    {od6 an6 : Option Addr} {sl6 : Array (Option Value)} {oc6 kV6 dc6 pm6 cd6 ct6 : Value}
    (a6 : PySem.W.nsIn K mainGlobals "check_path" = some (some (.ref f6))) (l6 : K.lookup f6 = some ⟨oc6, od6, .func (PySem.W.fnOf "check_path" "check_path" (defArgs s_P_check_path) (defBody s_P_check_path) (defScope s_P_check_path) .none kV6 dc6 pm6 an6 cd6 ct6), sl6⟩) (c6 : PySem.W.codeIn K cd6 "check_path" = true) (k6 : PySem.W.keepIn K (.ref f6) = true)
    {od7 an7 : Option Addr} {sl7 : Array (Option Value)} {oc7 kV7 dc7 pm7 cd7 ct7 : Value}
    (a7 : PySem.W.nsIn K mainGlobals "check_net" = some (some (.ref f7))) (l7 : K.lookup f7 = some ⟨oc7, od7, .func (PySem.W.fnOf "check_net" "check_net" (defArgs s_P_check_net) (defBody s_P_check_net) (defScope s_P_check_net) .none kV7 dc7 pm7 an7 cd7 ct7), sl7⟩) (c7 : PySem.W.codeIn K cd7 "check_net" = true) (k7 : PySem.W.keepIn K (.ref f7) = true)
    {od8 an8 : Option Addr} {sl8 : Array (Option Value)} {oc8 kV8 dc8 pm8 cd8 ct8 : Value}
    (a8 : PySem.W.nsIn K mainGlobals "_law_refused" = some (some (.ref f8))) (l8 : K.lookup f8 = some ⟨oc8, od8, .func (PySem.W.fnOf "_law_refused" "_law_refused" (defArgs s_L_refused) (defBody s_L_refused) (defScope s_L_refused) .none kV8 dc8 pm8 an8 cd8 ct8), sl8⟩) (c8 : PySem.W.codeIn K cd8 "_law_refused" = true) (k8 : PySem.W.keepIn K (.ref f8) = true)
    {od9 an9 : Option Addr} {sl9 : Array (Option Value)} {oc9 kV9 dc9 pm9 cd9 ct9 : Value}
    (a9 : PySem.W.nsIn K mainGlobals "law" = some (some (.ref f9))) (l9 : K.lookup f9 = some ⟨oc9, od9, .func (PySem.W.fnOf "law" "law" (defArgs s_law) (defBody s_law) (defScope s_law) .none kV9 dc9 pm9 an9 cd9 ct9), sl9⟩) (c9 : PySem.W.codeIn K cd9 "law" = true) (k9 : PySem.W.keepIn K (.ref f9) = true)
    (z_isinstance : PySem.W.nsIn K mainGlobals "isinstance" = some none)
    (z_len : PySem.W.nsIn K mainGlobals "len" = some none)
    (z_list : PySem.W.nsIn K mainGlobals "list" = some none)
    (z_max : PySem.W.nsIn K mainGlobals "max" = some none)
    (z_min : PySem.W.nsIn K mainGlobals "min" = some none)
    (z_range : PySem.W.nsIn K mainGlobals "range" = some none)
    (z_set : PySem.W.nsIn K mainGlobals "set" = some none)
    {tk_MOST_HOUSES : Tok} (w_MOST_HOUSES : PySem.W.nsIn K mainGlobals "MOST_HOUSES" = some (some (.int 8 tk_MOST_HOUSES)))
    {K_HearError : Addr}
    (n_HearError : PySem.W.nsIn K mainGlobals "HearError" = some (some (.ref K_HearError)))
    {K_NoNet : Addr}
    (n_NoNet : PySem.W.nsIn K mainGlobals "NoNet" = some (some (.ref K_NoNet)))
    {K_NoPath : Addr}
    (n_NoPath : PySem.W.nsIn K mainGlobals "NoPath" = some (some (.ref K_NoPath)))
    {K_OutOfTime : Addr}
    (n_OutOfTime : PySem.W.nsIn K mainGlobals "OutOfTime" = some (some (.ref K_OutOfTime)))
    {K_Twice : Addr}
    (n_Twice : PySem.W.nsIn K mainGlobals "Twice" = some (some (.ref K_Twice)))
    {K_TooLate : Addr}
    (n_TooLate : PySem.W.nsIn K mainGlobals "TooLate" = some (some (.ref K_TooLate)))
    (z_ValueError : PySem.W.nsIn K mainGlobals "ValueError" = some none)
    (x_ek : PySem.W.excIn K K_NoNet [.type "ValueError", .type "Exception", .type "BaseException", .type "object"] "ValueError.__new__" = true)
    (x_sh : PySem.W.subIn K (.ref K_HearError) (.type "BaseException") = some true)
    (x_th : PySem.W.typeIn K (.ref K_HearError) = some (.type "type"))
    (x_ns : PySem.W.subIn K (.ref K_NoNet) (.ref K_HearError) = some true)
    (x_mh : PySem.W.mroIn K K_HearError (.type "object") = some true)
    (x_ga : PySem.W.findIn K (.ref K_NoNet) "__getattribute__" = some (some (.builtin "BaseException.__getattribute__")))
    (x_gt : PySem.W.findIn K (.ref K_NoNet) "__getattr__" = some none)
    (x_be : PySem.W.mroIn K K_NoNet (.type "BaseException") = some true)
    (x_ob : PySem.W.mroIn K K_NoNet (.type "object") = some true)
    (x_ha : PySem.W.findIn K (.ref K_NoNet) "__class__" = some (some (.builtin "object.__class__")))
    (x_cn : PySem.W.specialIn K (.builtin "object.__class__") "__get__" = some (some (.builtin "getset_descriptor.__get__")))
    (x_ct : PySem.W.takesIn K (.builtin "object.__class__") = some true)
    (kt_any : PySem.W.kitAny K (.ref K_NoNet) [.ref K_NoPath, .ref K_OutOfTime, .ref K_TooLate, .ref K_Twice] = some false)
    (kt_self : PySem.W.kitOne K (.ref K_NoNet) (.ref K_NoNet) = some true)
    (kt_ve : PySem.W.kitOne K (.ref K_NoNet) (.type "ValueError") = some true)
    : ∃ fd : FuncData, (∀ (s : Shared) (v : Value), BindsTo s fd ⟨[v], []⟩ [("_law_script", v)]) ∧ ∀ base : Heap, K.In base → base.Ns mainGlobals mg → FnOk l.prog w K mg base CX0 5 fa fd ["_law_script"] (spV0 K φ_law 1) := by
  have e := hfa.symm.trans (PySem.W.mg_of X G a9)
  cases e
  have m_isinstance := PySem.W.mg_none_of X G z_isinstance
  have m_len := PySem.W.mg_none_of X G z_len
  have m_list := PySem.W.mg_none_of X G z_list
  have m_max := PySem.W.mg_none_of X G z_max
  have m_min := PySem.W.mg_none_of X G z_min
  have m_range := PySem.W.mg_none_of X G z_range
  have m_set := PySem.W.mg_none_of X G z_set
  have g_MOST_HOUSES : ∃ t, mg "MOST_HOUSES" = some (.int 8 t) := ⟨_, PySem.W.mg_of X G w_MOST_HOUSES⟩
  obtain ⟨cls, hcls⟩ : ∃ cls : Addr → Addr, ∀ i, cls i = K_NoNet := ⟨fun _ => K_NoNet, fun _ => rfl⟩
  have ek_NoNet : ExK K (cls 0) := by rw [hcls]; exact x_ek
  have em_NoNet : mg "NoNet" = some (.ref (cls 0)) := by rw [hcls]; exact PySem.W.mg_of X G n_NoNet
  have RK : RefK K mg cls K_NoPath K_OutOfTime K_TooLate K_Twice K_HearError K_NoNet := ⟨PySem.W.mg_of X G n_NoPath, PySem.W.mg_of X G n_OutOfTime, PySem.W.mg_of X G n_TooLate, PySem.W.mg_of X G n_Twice, PySem.W.mg_of X G n_HearError, fun q => by rw [hcls]; exact exm_of x_sh x_th x_ns x_mh, PySem.W.mg_of X G n_NoNet, PySem.W.mg_none_of X G z_ValueError, fun q => by rw [hcls]; exact ⟨cls_some x_ob, x_ga, x_gt, x_be, x_ob, x_ha, x_cn, x_ct⟩, fun q => by rw [hcls]; exact kt_any, fun q => by rw [hcls]; exact kt_self, fun q => by rw [hcls]; exact kt_ve⟩
  have F0 := fun_mk (st := s_L_cell_at) l0 c0 k0
  have b0 := F0.binds (ps := ps_L_cell_at) fun _ _ _ _ _ _ => len_s fun _ => len_s fun _ => len_0 rfl
  have F1 := fun_mk (st := s_L_mix) l1 c1 k1
  have b1 := F1.binds (ps := ps_L_mix) fun _ _ _ _ _ _ => len_s fun _ => len_s fun _ => len_0 rfl
  have F2 := fun_mk (st := s_L_big_net) l2 c2 k2
  have b2 := F2.binds (ps := ps_L_big_net) fun _ _ _ _ _ _ => len_s fun _ => len_0 rfl
  have F3 := fun_mk (st := s_L_no_house) l3 c3 k3
  have b3 := F3.binds (ps := ps_L_no_house) fun _ _ _ _ _ _ => len_s fun _ => len_s fun _ => len_s fun _ => len_0 rfl
  have F4 := fun_mk (st := s_L_fault) l4 c4 k4
  have b4 := F4.binds (ps := ps_L_fault) fun _ _ _ _ _ _ => len_s fun _ => len_s fun _ => len_s fun _ => len_0 rfl
  have F5 := fun_mk (st := s_P_is_house) l5 c5 k5
  have b5 := F5.binds (ps := ps_P_is_house) fun _ _ _ _ _ _ => len_s fun _ => len_s fun _ => len_0 rfl
  have F6 := fun_mk (st := s_P_check_path) l6 c6 k6
  have b6 := F6.binds (ps := ps_P_check_path) fun _ _ _ _ _ _ => len_s fun _ => len_s fun _ => len_0 rfl
  have F7 := fun_mk (st := s_P_check_net) l7 c7 k7
  have b7 := F7.binds (ps := ps_P_check_net) fun _ _ _ _ _ _ => len_s fun _ => len_0 rfl
  have F8 := fun_mk (st := s_L_refused) l8 c8 k8
  have b8 := F8.binds (ps := ps_L_refused) fun _ _ _ _ _ _ => len_s fun _ => len_0 rfl
  have F9 := fun_mk (st := s_law) l9 c9 k9
  refine ⟨PySem.W.fnOf "law" "law" (defArgs s_law) (defBody s_law) (defScope s_law) .none kV9 dc9 pm9 an9 cd9 ct9, fun s v => .of_eq rfl, fun base _ _ => ?_⟩
  have C_L_cell_at : Callee l.prog w K mg base 1 "_law_cell_at" 2 φ_L_cell_at := ⟨_, _, _, ok_L_cell_at F0 m_len, b0, PySem.W.mg_of X G a0, k0⟩
  have C_L_mix : Callee l.prog w K mg base 1 "_law_mix" 2 φ_L_mix := ⟨_, _, _, ok_L_mix F1 , b1, PySem.W.mg_of X G a1, k1⟩
  have C_L_big_net : Callee l.prog w K mg base 2 "_law_big_net" 1 φ_L_big_net := ⟨_, _, _, ok_L_big_net F2 m_len m_max m_min m_range C_L_cell_at C_L_mix, b2, PySem.W.mg_of X G a2, k2⟩
  have C_L_no_house : Callee l.prog w K mg base 1 "_law_no_house" 3 φ_L_no_house := ⟨_, _, _, ok_L_no_house F3 , b3, PySem.W.mg_of X G a3, k3⟩
  have C_L_fault : Callee l.prog w K mg base 2 "_law_fault" 3 φ_L_fault := ⟨_, _, _, ok_L_fault F4 m_len C_L_no_house, b4, PySem.W.mg_of X G a4, k4⟩
  have C_P_is_house : Callee l.prog w K mg base 1 "is_house" 2 φ_P_is_house := ⟨_, _, _, ok_P_is_house F5 , b5, PySem.W.mg_of X G a5, k5⟩
  have C_P_check_path : CalleeX l.prog w K mg base cls 2 "check_path" 2 φ_P_check_path := ⟨_, _, _, ok_P_check_path (cls := cls) F6 C_P_is_house ek_NoNet em_NoNet, b6, PySem.W.mg_of X G a6, k6⟩
  have C_P_check_net : CalleeX l.prog w K mg base cls 3 "check_net" 1 φ_P_check_net := ⟨_, _, _, ok_P_check_net (cls := cls) F7 m_len m_set g_MOST_HOUSES C_P_check_path ek_NoNet em_NoNet, b7, PySem.W.mg_of X G a7, k7⟩
  have C_L_refused : Callee l.prog w K mg base 4 "_law_refused" 1 φ_L_refused := ⟨_, _, _, ok_L_refused (cls := cls) F8 m_isinstance C_P_check_net RK, b8, PySem.W.mg_of X G a8, k8⟩
  exact ok_law (cls := cls) F9 m_list C_L_big_net C_L_cell_at C_L_fault C_L_mix C_L_refused C_P_check_net
theorem walk {l : PySem.W.OpenLaw} {q : Program} {loose : List Str} {XP : (Str → Option Value) → Heap → Prop} {YP : World → Heap → Prop} {d : DefRec} {K : Params → PySem.W.Frag} (hn : l.most = some 63) (hdf : d.params.defaults = [])
    (hY : ∀ (w : World) (h : Heap), YP w h → (K w.params).In h)
    (F : ∀ (w : World) (mg : Str → Option Value) (fa : Addr) (h : Heap), (K w.params).In h → h.Ns mainGlobals mg → mg d.name = some (.ref fa) →
      ∃ fd : FuncData, (∀ (s : Shared) (u : Value), BindsTo s fd ⟨[u], []⟩ [("_law_script", u)]) ∧ ∀ base : Heap, (K w.params).In base → base.Ns mainGlobals mg → FnOk l.prog w (K w.params) mg base CX0 5 fa fd ["_law_script"] (spV0 (K w.params) φ_law 1)) :
    PySem.W.WalkO q loose XP YP l.row.toRowW d [] (fun f vs => PySem.call f vs) :=
  L2.walk_ofK (n := 63) (k := 5) (x := "_law_script") (CX := CX0) (sp := fun K => spV0 K φ_law 1) hn (by decide) hdf ⟨rfl, by decide, by decide, rfl⟩ hY F
    (fun K H a ns hl _ hS => L3.law_sp hS (law_ok ns hl)) fun _ _ _ _ z => z

end My
open PySem PySem.W PyProof.Rows
set_option maxRecDepth 100000 in
set_option maxHeartbeats 0 in
theorem PySem.Challenge.cw_hearsay_k01_nets_refused_holds : PySem.Challenge.rw_hearsay_k01_nets_refused.Holds := by
  w_on; o_law; k_head; (case hw => w_witness2)
  k_fill
  refine My.walk (l := PySem.Challenge.rw_hearsay_k01_nets_refused) rfl rfl (fun w h Y => PySem.W.kIn_of Y) ?F
  case F =>
    intro w mg fa h KX G hmg
    refine' My.all_mk KX G hmg ?a0 ?l0 ?c0 ?k0 ?a1 ?l1 ?c1 ?k1 ?a2 ?l2 ?c2 ?k2 ?a3 ?l3 ?c3 ?k3 ?a4 ?l4 ?c4 ?k4 ?a5 ?l5 ?c5 ?k5 ?a6 ?l6 ?c6 ?k6 ?a7 ?l7 ?c7 ?k7 ?a8 ?l8 ?c8 ?k8 ?a9 ?l9 ?c9 ?k9 ?z_isinstance ?z_len ?z_list ?z_max ?z_min ?z_range ?z_set ?w_MOST_HOUSES ?n_HearError ?n_NoNet ?n_NoPath ?n_OutOfTime ?n_Twice ?n_TooLate ?z_ValueError ?x_ek ?x_sh ?x_th ?x_ns ?x_mh ?x_ga ?x_gt ?x_be ?x_ob ?x_ha ?x_cn ?x_ct ?kt_any ?kt_self ?kt_ve
    (case a0 => k_is)
    (case l0 => k_is)
    (case c0 => k_is)
    (case k0 => k_is)
    (case a1 => k_is)
    (case l1 => k_is)
    (case c1 => k_is)
    (case k1 => k_is)
    (case a2 => k_is)
    (case l2 => k_is)
    (case c2 => k_is)
    (case k2 => k_is)
    (case a3 => k_is)
    (case l3 => k_is)
    (case c3 => k_is)
    (case k3 => k_is)
    (case a4 => k_is)
    (case l4 => k_is)
    (case c4 => k_is)
    (case k4 => k_is)
    (case a5 => k_is)
    (case l5 => k_is)
    (case c5 => k_is)
    (case k5 => k_is)
    (case a6 => k_is)
    (case l6 => k_is)
    (case c6 => k_is)
    (case k6 => k_is)
    (case a7 => k_is)
    (case l7 => k_is)
    (case c7 => k_is)
    (case k7 => k_is)
    (case a8 => k_is)
    (case l8 => k_is)
    (case c8 => k_is)
    (case k8 => k_is)
    (case a9 => k_is)
    (case l9 => k_is)
    (case c9 => k_is)
    (case k9 => k_is)
    (case z_isinstance => k_is)
    (case z_len => k_is)
    (case z_list => k_is)
    (case z_max => k_is)
    (case z_min => k_is)
    (case z_range => k_is)
    (case z_set => k_is)
    (case w_MOST_HOUSES => k_is)
    (case n_HearError => k_is)
    (case n_NoNet => k_is)
    (case n_NoPath => k_is)
    (case n_OutOfTime => k_is)
    (case n_Twice => k_is)
    (case n_TooLate => k_is)
    (case z_ValueError => k_is)
    (case x_ek => k_exc)
    (case x_sh => k_is)
    (case x_th => k_is)
    (case x_ns => k_is)
    (case x_mh => k_is)
    (case x_ga => k_is)
    (case x_gt => k_is)
    (case x_be => k_is)
    (case x_ob => k_is)
    (case x_ha => k_is)
    (case x_cn => k_is)
    (case x_ct => k_is)
    (case kt_any => kit_is)
    (case kt_self => kit_is)
    (case kt_ve => kit_is)

