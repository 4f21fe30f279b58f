import PyProof.Rows.All
import Wide.All
import OpenK.AllK
import Wide.FinOn
import Lean
import PyProof.EqAt
import PyProof.EqKinds
import PyProof.TupleCall
import PySem.Challenge.RW_piecebounds_k28_least_costs_at_prices
set_option Elab.async false
set_option linter.all false
set_option maxRecDepth 100000
/-! THE HAND LAYER, for ints, bools, texts, own classes, LISTS and tuples (index, slices, in, append, pop ..), calls, loops. Paste it whole ahead of your own text; what your proof does not reach may be deleted. -/
namespace L2
open PySem PySem.Spec PyProof.Rows

/-- a key: an int or a str -/
abbrev Key := Sum Int Str
def keyIs : Key → Value → Bool
  | .inl k, v => Value.isInt k v
  | .inr x, v => Value.isStrOf x v
def keyH (w : World) : Key → Int
  | .inl k => hashInt k
  | .inr x => hashStr w x
theorem keyIs_shape : ∀ {k : Key} {v : Value}, keyIs k v = true → (∃ i t, k = Sum.inl i ∧ v = Value.int i t) ∨ (∃ x t, k = Sum.inr x ∧ v = Value.str x t)
  | .inl i, v, h => by
    obtain ⟨t, e⟩ := Value.isInt_shape (k := i) (v := v) h
    exact .inl ⟨i, t, rfl, e⟩
  | .inr x, v, h => by
    obtain ⟨t, e⟩ := Value.isStrOf_shape (x := x) (v := v) h
    exact .inr ⟨x, t, rfl, e⟩
theorem key_ll (a b : Int) : decide ((Sum.inl a : Key) = Sum.inl b) = (a == b) := by
  by_cases e : a = b
  · subst e; simp
  · have h : ¬ (Sum.inl a : Key) = Sum.inl b := fun q => e (Sum.inl.inj q)
    rw [decide_eq_false h]
    exact (beq_eq_false_iff_ne.mpr e).symm
theorem key_rr (a b : Str) : decide ((Sum.inr a : Key) = Sum.inr b) = decide (a = b) := by
  by_cases e : a = b
  · subst e; simp
  · have h : ¬ (Sum.inr a : Key) = Sum.inr b := fun q => e (Sum.inr.inj q)
    rw [decide_eq_false h, decide_eq_false e]
theorem key_lr (a : Int) (b : Str) : decide ((Sum.inl a : Key) = Sum.inr b) = false := decide_eq_false (fun q => nomatch q)
theorem key_rl (a : Str) (b : Int) : decide ((Sum.inr a : Key) = Sum.inl b) = false := decide_eq_false (fun q => nomatch q)

def mixKind (prog : Program) (w : World) : PySem.KeyKind prog w Key where
  is := keyIs
  hash := keyH w
  inj := fun v a b ha hb => by
    rcases keyIs_shape ha with ⟨i, t, rfl, rfl⟩ | ⟨x, t, rfl, rfl⟩
    · rcases keyIs_shape hb with ⟨j, u, rfl, e⟩ | ⟨y, u, rfl, e⟩
      · injection e with e1 _; rw [e1]
      · exact nomatch e
    · rcases keyIs_shape hb with ⟨j, u, rfl, e⟩ | ⟨y, u, rfl, e⟩
      · exact nomatch e
      · injection e with e1 _; rw [e1]
  byValue := fun k v h => by
    rcases keyIs_shape h with ⟨i, t, rfl, rfl⟩ | ⟨x, t, rfl, rfl⟩ <;> rfl
  pyHash := fun hv h => by
    rcases keyIs_shape hv with ⟨i, t, rfl, rfl⟩ | ⟨x, t, rfl, rfl⟩
    · exact wpAny_pyHash_int h
    · exact wpAny_pyHash_str h
  eqBool := fun hu hv h => by
    rcases keyIs_shape hu with ⟨i, t, rfl, rfl⟩ | ⟨x, t, rfl, rfl⟩
    · rcases keyIs_shape hv with ⟨j, u, rfl, rfl⟩ | ⟨y, u, rfl, rfl⟩
      · rw [key_ll] at h; exact wpAny_eqBool_int h
      · rw [key_lr] at h; exact SeqAt.EqAt.int_str i t y u _ _ _ _ h
    · rcases keyIs_shape hv with ⟨j, u, rfl, rfl⟩ | ⟨y, u, rfl, rfl⟩
      · rw [key_rl] at h; exact SeqAt.EqAt.str_int x t j u _ _ _ _ h
      · rw [key_rr] at h; exact wpAny_eqBool_str h
  «strs» := fun k x t v h => by
    rcases keyIs_shape h with ⟨i, u, rfl, e⟩ | ⟨y, u, rfl, e⟩
    · exact nomatch e
    · injection e with e1 _
      subst e1
      cases v <;> rfl

end L2

namespace L2
open PySem PySem.Spec PyProof.Rows

/-- a value, without the heap -/
inductive V where
  | non | bl (b : Bool) | int (i : Int) | str (x : Str) | byt (b : Array UInt8) | flt (b : UInt64) | ref (a : Addr) | ty (n : String)
  deriving DecidableEq

def RelV : V → Value → Prop
  | .non, u => u = Value.none
  | .bl b, u => u = Value.bool b
  | .int i, u => ∃ t, u = Value.int i t
  | .str x, u => ∃ t, u = Value.str x t
  | .byt b, u => ∃ t, u = Value.bytes b t
  | .flt b, u => ∃ t, u = Value.float b t
  | .ref a, u => u = Value.ref a
  | .ty n, u => u = Value.type n

abbrev Vals : List V → List Value → Prop := Paired RelV
theorem Vals.length {xs : List V} {us : List Value} (r : Vals xs us) : xs.length = us.length := Paired.length r
theorem Vals.get : ∀ {xs : List V} {us : List Value} {i : Nat} {x : V}, Vals xs us → xs[i]? = some x → ∃ u, us[i]? = some u ∧ RelV x u
  | _, _, _, _, .nil, e => by simp at e
  | _, _, 0, _, .cons r _, e => by simp at e; subst e; exact ⟨_, rfl, r⟩
  | _, _, i + 1, x, .cons _ t, e => by
    obtain ⟨u, h1, h2⟩ := Vals.get (i := i) (x := x) t (by simpa using e)
    exact ⟨u, by simpa using h1, h2⟩
theorem Vals.set {x : V} {u : Value} (r : RelV x u) : ∀ {xs : List V} {us : List Value} (i : Nat), Vals xs us → Vals (xs.set i x) (us.set i u)
  | _, _, _, .nil => .nil
  | _, _, 0, .cons _ t => .cons r t
  | _, _, i + 1, .cons q t => .cons q (Vals.set r i t)
theorem Vals.append : ∀ {xs ys : List V} {us ws : List Value}, Vals xs us → Vals ys ws → Vals (xs ++ ys) (us ++ ws)
  | _, _, _, _, .nil, s => s
  | _, _, _, _, .cons r t, s => .cons r (Vals.append t s)
theorem Vals.take : ∀ {xs : List V} {us : List Value} (n : Nat), Vals xs us → Vals (xs.take n) (us.take n)
  | _, _, 0, _ => .nil
  | _, _, _ + 1, .nil => .nil
  | _, _, n + 1, .cons r t => .cons r (Vals.take n t)
theorem Vals.drop : ∀ {xs : List V} {us : List Value} (n : Nat), Vals xs us → Vals (xs.drop n) (us.drop n)
  | _, _, 0, r => r
  | _, _, _ + 1, .nil => .nil
  | _, _, n + 1, .cons _ t => Vals.drop n t
def RelO : Option V → Option Value → Prop
  | some v, some u => RelV v u
  | none, none => True
  | _, _ => False
def KV {κ : Type} : List (κ × V) → List (κ × Value) → Prop := Paired fun (p : κ × V) (q : κ × Value) => p.1 = q.1 ∧ RelV p.2 q.2

/-- a key of a dict (00_mix): an int or a text -/
def kV : Key → V
  | .inl i => .int i
  | .inr x => .str x

/-- what stands at a tracked address -/
inductive HO where
  /-- a list -/
  | lst (xs : List V)
  /-- a tuple (never changes) -/
  | tup (xs : List V)
  /-- a dict whose keys are ints and texts; one whose keys are tuples of ints and texts (the empty one is both) -/
  | dK (kvs : List (Key × V)) | dT (kvs : List (List Key × V))
  /-- a set of ints: its members, its size -/
  | set (S : Int → Bool) (n : Nat)
  /-- an instance of the class at C, its dict at dx, its attributes -/
  | ins (C dx : Addr) (fs : List (Str × V))
  /-- the dict of the instance at x -/
  | own (x : Addr)
  /-- the dict of an exception -/
  | xd (fs : List (Str × V))
  /-- a bound method, f of x -/
  | met (f x : Addr)
  /-- a range object lo, lo + 1, .. below hi -/
  | rng (lo hi : Int)
  /-- a thing that is known to the object (the script; a dict while a loop walks it): read, never written while it is so -/
  | frz (o : Obj) (u : HO)
  /-- a code object's table -/
  | tbl (ps : Array Value)
  /-- any other thing, by what is true of its one object (a def of one's own: SetO a S n := HO.ext fun h => ..) -/
  | ext (φ : Heap → Prop)

abbrev Hp := Addr → Option HO
def upd (H : Hp) (a : Addr) (o : HO) : Hp := fun b => if b = a then some o else H b
theorem upd_same {H : Hp} {a : Addr} {o : HO} : upd H a o a = some o := by unfold upd; rw [if_pos rfl]
theorem upd_ne {H : Hp} {a b : Addr} {o : HO} (h : b ≠ a) : upd H a o b = H b := by unfold upd; rw [if_neg h]
theorem ne_of_none {H : Hp} {a b : Addr} {o : HO} (h : H a = some o) (h' : H b = none) : a ≠ b := by
  intro e; subst e; rw [h] at h'; cases h'

section
variable (P : Program) (w : World)
def ObjOk (H : Hp) (h : Heap) (a : Addr) : HO → Prop
  | .lst xs => xs.length ≤ sizeLine ∧ ∃ (its : List Value) (n : Nat), Vals xs its ∧ h.get? a = some { cls := .type "list", data := .seq its.toArray n }
  | .tup xs => xs.length ≤ sizeLine ∧ ∃ its : List Value, Vals xs its ∧ IsTup h a its.toArray
  | .dK kvs => kvs.length ≤ sizeLine ∧ (a == sysModules) = false ∧ ∃ vs, KV kvs vs ∧ h.DictOf (mixKind P w) a vs
  | .dT kvs => kvs.length ≤ sizeLine ∧ (a == sysModules) = false ∧ ∃ xs : List (List Key × Addr × Value),
      Paired (fun (p : List Key × V) (q : List Key × Addr × Value) => p.1 = q.1 ∧ H q.2.1 = some (.tup (p.1.map kV)) ∧ RelV p.2 q.2.2) kvs xs ∧
      ∃ o es ep, h.get? a = some o ∧ o.ExactDict ∧ o.data = .dict es ep ∧ es.toList = xs.map (entryOfKey (tupleKind (mixKind P w))) ∧ (xs.map (·.1)).Nodup
  | .set S n => h.SetOf (intKind P w) a S n
  | .ins C dx fs => H dx = some (.own a) ∧ fs.length ≤ 1000 ∧ dx ≠ a ∧ h.get? a = some (PySem.W.instObj C dx) ∧
      ∃ mA, h.Ns1 dx mA ∧ (∀ f, RelO (fs.lookup f) (mA f)) ∧ PySem.Within mA (fs.map (·.1))
  | .own _ => ∃ o, h.get? a = some o
  | .xd fs => ∃ mA, h.Ns1 a mA ∧ ∀ f, RelO (fs.lookup f) (mA f)
  | .rng lo hi => ∃ t u v, h.get? a = some { cls := .type "range", data := .fields #[.int lo t, .int hi u, .int 1 v] }
  | .frz o u => h.get? a = some o ∧ ObjOk H h a u
  | .tbl ps => h.get? a = some { cls := .none, data := .fields ps }
  | .met f x => h.get? a = some (PySem.W.methodObj (.ref f) (.ref x))
  | .ext φ => φ h ∧ (∃ o, h.get? a = some o) ∧ ∀ h1 h2 : Heap, φ h1 → (∀ o, h1.get? a = some o → h2.get? a = some o) → φ h2
/-- the abstract heap is held -/
def HOk (H : Hp) (h : Heap) : Prop := ∀ a o, H a = some o → ObjOk P w H h a o
end

section
variable {P : Program} {w : World} {H H' : Hp} {h h' : Heap} {a : Addr} {o : HO}
theorem ObjOk.lt (x : ObjOk P w H h a o) : a < h.objs.size := by
  cases o with
  | lst xs => obtain ⟨_, _, _, _, e⟩ := x; exact Heap.lt_size e
  | tup xs => obtain ⟨_, _, _, p⟩ := x; exact p.lt
  | dK kvs => obtain ⟨_, _, _, _, o, _, _, e, _⟩ := x; exact Heap.lt_size e
  | dT kvs => obtain ⟨_, _, _, _, o, _, _, e, _⟩ := x; exact Heap.lt_size e
  | set S n => obtain ⟨o, _, _, _, e, _⟩ := x; exact Heap.lt_size e
  | ins C dx fs => obtain ⟨_, _, _, e, _⟩ := x; exact Heap.lt_size e
  | own y => obtain ⟨_, e⟩ := x; exact Heap.lt_size e
  | xd fs => obtain ⟨_, ⟨_, _, _, e, _⟩, _⟩ := x; exact Heap.lt_size e
  | rng lo hi => obtain ⟨_, _, _, e⟩ := x; exact Heap.lt_size e
  | frz ob u => obtain ⟨e, _⟩ := x; exact Heap.lt_size e
  | tbl ps => exact Heap.lt_size (show h.get? a = some _ from x)
  | met f y => exact Heap.lt_size (show h.get? a = some _ from x)
  | ext φ => obtain ⟨_, ⟨_, e⟩, _⟩ := x; exact Heap.lt_size e
theorem Paired.mapP {α β : Type} {F G : α → β → Prop} : ∀ {l₁ : List α} {l₂ : List β}, Paired F l₁ l₂ → (∀ a b, F a b → G a b) → Paired G l₁ l₂
  | _, _, .nil, _ => .nil
  | _, _, .cons r t, f => .cons (f _ _ r) (Paired.mapP t f)
/-- what an object's description leans on: its own object, its own dict, the tuples -/
theorem ObjOk.stay (x : ObjOk P w H h a o) (k : ∀ b u, (b = a ∨ H b = some (.own a)) → h.get? b = some u → h'.get? b = some u)
    (ho : ∀ b, H b = some (.own a) → H' b = some (.own a)) (ht : ∀ b xs, H b = some (.tup xs) → H' b = some (.tup xs)) : ObjOk P w H' h' a o := by
  induction o with
  | lst xs => obtain ⟨z, its, n, r, e⟩ := x; exact ⟨z, its, n, r, k _ _ (.inl rfl) e⟩
  | tup xs => obtain ⟨z, its, r, ob, e, c⟩ := x; exact ⟨z, its, r, ob, k _ _ (.inl rfl) e, c⟩
  | dK kvs => obtain ⟨z, y, vs, r, ob, es, ep, e, c⟩ := x; exact ⟨z, y, vs, r, ob, es, ep, k _ _ (.inl rfl) e, c⟩
  | dT kvs =>
    obtain ⟨z, y, xs, r, ob, es, ep, e, c⟩ := x
    exact ⟨z, y, xs, Paired.mapP r fun p q z => ⟨z.1, ht _ _ z.2.1, z.2.2⟩, ob, es, ep, k _ _ (.inl rfl) e, c⟩
  | set S n => obtain ⟨ob, es, ep, t, e, c⟩ := x; exact ⟨ob, es, ep, t, k _ _ (.inl rfl) e, c⟩
  | ins C dx fs =>
    obtain ⟨d, z, ne, e, mA, ⟨od, es, ep, e2, c⟩, r⟩ := x
    exact ⟨ho _ d, z, ne, k _ _ (.inl rfl) e, mA, ⟨od, es, ep, k _ _ (.inr d) e2, c⟩, r⟩
  | own y => obtain ⟨ob, e⟩ := x; exact ⟨ob, k _ _ (.inl rfl) e⟩
  | xd fs => obtain ⟨mA, ⟨od, es, ep, e, c⟩, r⟩ := x; exact ⟨mA, ⟨od, es, ep, k _ _ (.inl rfl) e, c⟩, r⟩
  | rng lo hi => obtain ⟨t, u, v, e⟩ := x; exact ⟨t, u, v, k _ _ (.inl rfl) e⟩
  | frz ob u ih => obtain ⟨e, q⟩ := x; exact ⟨k _ _ (.inl rfl) e, ih q⟩
  | tbl ps =>
    have e : h.get? a = some { cls := .none, data := .fields ps } := x
    show h'.get? a = some { cls := .none, data := .fields ps }
    exact k a _ (.inl rfl) e
  | met f y =>
    have e : h.get? a = some (PySem.W.methodObj (.ref f) (.ref y)) := x
    show h'.get? a = some (PySem.W.methodObj (.ref f) (.ref y))
    exact k a _ (.inl rfl) e
  | ext φ => obtain ⟨p, ⟨o, e⟩, st⟩ := x; exact ⟨st _ _ p fun o q => k _ _ (.inl rfl) q, ⟨o, k _ _ (.inl rfl) e⟩, st⟩
theorem HOk.lt (x : HOk P w H h) (e : H a = some o) : a < h.objs.size := (x a o e).lt
theorem HOk.fresh (x : HOk P w H h) (e : h.objs.size ≤ a) : H a = none := by
  cases q : H a with
  | none => rfl
  | some u => exact absurd (Nat.lt_of_lt_of_le (x.lt q) e) (Nat.lt_irrefl _)
/-- every object of the heap is kept -/
theorem HOk.kept (x : HOk P w H h) (k : ∀ b u, h.get? b = some u → h'.get? b = some u) : HOk P w H h' := fun a o e =>
  (x a o e).stay (fun b u _ q => k b u q) (fun _ q => q) fun _ _ q => q
/-- a new object is laid and tracked -/
theorem HOk.laid (x : HOk P w H h) (k : ∀ b u, h.get? b = some u → h'.get? b = some u) (hp : h.objs.size ≤ a) (new : ObjOk P w (upd H a o) h' a o) : HOk P w (upd H a o) h' := fun b u e => by
  have hn := x.fresh hp
  by_cases hb : b = a
  · subst hb; rw [upd_same] at e; cases e; exact new
  · rw [upd_ne hb] at e
    exact (x b u e).stay (fun c v _ q => k c v q) (fun c q => by rw [upd_ne (ne_of_none q hn)]; exact q) fun c xs q => by rw [upd_ne (ne_of_none q hn)]; exact q
end

/-- what may be read as u: it is u, or a known u -/
def Rd (H : Hp) (a : Addr) (u : HO) : Prop := H a = some u ∨ ∃ o, H a = some (.frz o u)
theorem Rd.ok {P : Program} {w : World} {H : Hp} {h : Heap} {a : Addr} {u : HO} (r : Rd H a u) (x : HOk P w H h) : ObjOk P w H h a u := by
  rcases r with r | ⟨o, r⟩
  · exact x a u r
  · obtain ⟨_, q⟩ := x a _ r
    exact q
/-- what may be written -/
def Mut : Option HO → Prop
  | some (.lst _) => True
  | some (.dK _) => True
  | some (.dT _) => True
  | some (.set _ _) => True
  | some (.ins _ _ _) => True
  | some (.ext _) => True
  | _ => False
section
variable {P : Program} {w : World} {H : Hp} {h h' : Heap} {x e : Addr} {o' : HO}
/-- the object at e is changed: x itself, or the dict of the instance x -/
theorem HOk.write (ok : HOk P w H h) (mu : Mut (H x)) (he : e = x ∨ H e = some (.own x)) (k : ∀ b u, b ≠ e → h.get? b = some u → h'.get? b = some u) (heo : ∃ u, h'.get? e = some u)
    (new : ObjOk P w (upd H x o') h' x o') : HOk P w (upd H x o') h' := fun b u q => by
  have nown : ∀ c y, H c = some (.own y) → c ≠ x := fun c y r z => by subst z; rw [r] at mu; exact mu
  have ntup : ∀ c xs, H c = some (.tup xs) → c ≠ x := fun c xs r z => by subst z; rw [r] at mu; exact mu
  by_cases hb : b = x
  · subst hb; rw [upd_same] at q; cases q; exact new
  · rw [upd_ne hb] at q
    by_cases hbe : b = e
    · have q' : H b = some (.own x) := by
        rcases he with z | z
        · exact absurd (hbe.trans z) hb
        · rw [hbe]; exact z
      rw [q] at q'; cases q'
      obtain ⟨v, hv⟩ := heo
      exact ⟨v, by rw [hbe]; exact hv⟩
    · refine (ok b u q).stay (fun c v hc r => k c v ?_ r) (fun c r => by rw [upd_ne (nown c b r)]; exact r) fun c xs r => by rw [upd_ne (ntup c xs r)]; exact r
      rcases hc with rfl | hc
      · exact hbe
      · rintro rfl
        rcases he with z | z
        · exact nown c b hc z
        · rw [hc] at z; cases z; exact hb rfl
end

/-! ### kept unless tracked; of the frames at fs (the callers') the slots may change (an exception that passes writes there); of the records at ex (iterators) nothing is said -/
structure Un (fs ex : List Addr) (H H' : Hp) (h h' : Heap) : Prop where
  keep : ∀ b o, h.get? b = some o → H b = none → b ∉ fs → b ∉ ex → h'.get? b = some o
  slot : ∀ b o, h.get? b = some o → H b = none → b ∈ fs → b ∉ ex → ∃ sl, h'.get? b = some { o with slots := sl }
  free : ∀ b o, h.get? b = some o → H b = none → b ∉ ex → H' b = none
  there : ∀ b o, h.get? b = some o → b ∉ ex → ∃ o', h'.get? b = some o'
  tups : ∀ b xs, H b = some (.tup xs) → H' b = some (.tup xs)
  frzs : ∀ b o u, H b = some (.frz o u) → H' b = some (.frz o u)
  tbls : ∀ b ps, H b = some (.tbl ps) → ∃ more, H' b = some (.tbl (ps ++ more))
section
variable {fs fs' ex ex' : List Addr} {H H1 H2 : Hp} {h h1 h2 h' : Heap} {a x e : Addr} {o : HO}
theorem Un.any (u : Un fs ex H H1 h h1) {b : Addr} {ob : Obj} (q : h.get? b = some ob) (n : H b = none) (hx : b ∉ ex) : ∃ sl, h1.get? b = some { ob with slots := sl } := by
  by_cases hb : b ∈ fs
  · exact u.slot b ob q n hb hx
  · exact ⟨ob.slots, u.keep b ob q n hb hx⟩
theorem Un.trans (a : Un fs ex H H1 h h1) (b : Un fs ex H1 H2 h1 h2) : Un fs ex H H2 h h2 where
  keep := fun c ob q n hc hx => b.keep c ob (a.keep c ob q n hc hx) (a.free c ob q n hx) hc hx
  slot := fun c ob q n hc hx => by
    obtain ⟨sl, e1⟩ := a.slot c ob q n hc hx
    obtain ⟨sl', e2⟩ := b.slot c _ e1 (a.free c ob q n hx) hc hx
    exact ⟨sl', e2⟩
  free := fun c ob q n hx => by
    obtain ⟨o', e1⟩ := a.there c ob q hx
    exact b.free c o' e1 (a.free c ob q n hx) hx
  there := fun c ob q hx => by
    obtain ⟨o', e1⟩ := a.there c ob q hx
    exact b.there c o' e1 hx
  tups := fun c xs q => b.tups c xs (a.tups c xs q)
  frzs := fun c ob xs q => b.frzs c ob xs (a.frzs c ob xs q)
  tbls := fun c ps q => by
    obtain ⟨m1, e1⟩ := a.tbls c ps q
    obtain ⟨m2, e2⟩ := b.tbls c _ e1
    exact ⟨m1 ++ m2, by rw [e2, Array.append_assoc]⟩
theorem Un.kept (k : ∀ b u, h.get? b = some u → h'.get? b = some u) : Un fs ex H H h h' :=
  ⟨fun b ob q _ _ _ => k b ob q, fun b ob q _ _ _ => ⟨ob.slots, k b ob q⟩, fun _ _ _ n _ => n, fun b ob q _ => ⟨ob, k b ob q⟩, fun _ _ q => q, fun _ _ _ q => q, fun _ ps q => ⟨#[], by rw [q]; simp⟩⟩
theorem Un.refl : Un fs ex H H h h := Un.kept fun _ _ q => q
theorem Un.laid (k : ∀ b u, h.get? b = some u → h'.get? b = some u) (hp : h.objs.size ≤ a) (hn : H a = none) : Un fs ex H (upd H a o) h h' where
  keep := fun b u q _ _ _ => k b u q
  slot := fun b u q _ _ _ => ⟨u.slots, k b u q⟩
  free := fun b u q n _ => by rw [upd_ne (Nat.ne_of_lt (Nat.lt_of_lt_of_le (Heap.lt_size q) hp))]; exact n
  there := fun b u q _ => ⟨u, k b u q⟩
  tups := fun b xs q => by rw [upd_ne (ne_of_none q hn)]; exact q
  frzs := fun b u xs q => by rw [upd_ne (ne_of_none q hn)]; exact q
  tbls := fun b ps q => ⟨#[], by rw [upd_ne (ne_of_none q hn), q]; simp⟩
theorem Un.write (mu : Mut (H x)) (he : e = x ∨ H e = some (.own x)) (k : ∀ b u, b ≠ e → h.get? b = some u → h'.get? b = some u) (heo : ∃ u, h'.get? e = some u) : Un fs ex H (upd H x o) h h' := by
  have hx : ∀ b, H b = none → b ≠ x := fun b n z => by subst z; rw [n] at mu; exact mu
  have hb : ∀ b, H b = none → b ≠ e := fun b n z => by
    subst z
    rcases he with r | r
    · exact hx b n r
    · rw [n] at r; cases r
  have hm : ∀ b u, H b = some u → ¬ Mut (some u) → b ≠ x := fun b u q nm z => by subst z; rw [q] at mu; exact nm mu
  refine ⟨fun b u q n _ _ => k b u (hb b n) q, fun b u q n _ _ => ⟨u.slots, k b u (hb b n) q⟩, fun b u q n _ => by rw [upd_ne (hx b n)]; exact n, fun b u q _ => ?_,
    fun b xs q => by rw [upd_ne (hm b _ q fun z => z)]; exact q, fun b u xs q => by rw [upd_ne (hm b _ q fun z => z)]; exact q, fun b ps q => ⟨#[], by rw [upd_ne (hm b _ q fun z => z), q]; simp⟩⟩
  by_cases hbe : b = e
  · subst hbe; exact heo
  · exact ⟨u, k b u hbe q⟩
end

/-! ### the heap without what is tracked -/
def trk (h : Heap) (H : Hp) : List Addr := (List.range h.objs.size).filter fun a => (H a).isSome
def hidT (h : Heap) (H : Hp) : Heap := PySem.W.hideAll h (trk h H)
theorem hidT_size (h : Heap) (H : Hp) : (hidT h H).objs.size = h.objs.size := PySem.W.hideAll_size _ _
theorem hidT_get {h : Heap} {H : Hp} {b : Addr} {o : Obj} (e : h.get? b = some o) (n : H b = none) : (hidT h H).get? b = some o :=
  PySem.W.hideAll_get _ e fun hm => by
    have q : (H b).isSome = true := (List.mem_filter.mp hm).2
    rw [n] at q; simp at q
theorem of_hidT {h : Heap} {H : Hp} {b : Addr} {o : Obj} (e : (hidT h H).get? b = some o) : h.get? b = some o ∧ H b = none := by
  have e' : h.get? b = some o := PySem.W.of_hideAll (trk h H) e
  refine ⟨e', ?_⟩
  cases q : H b with
  | none => rfl
  | some x =>
    have hm : b ∈ trk h H := List.mem_filter.mpr ⟨List.mem_range.mpr (Heap.lt_size e'), by simp [q]⟩
    have z : (hidT h H).get? b = none := PySem.W.hideAll_none (trk h H) hm
    rw [z] at e; cases e

/-! ### OpenK's ledger, filled with every new object but one -/
end L2

namespace L2
open PySem PySem.Spec PyProof.Rows

/-- the module's facts, over the base: the heap at the law's entry without what is tracked there -/
structure Mod (K : PySem.W.Frag) (mg : Str → Option Value) (base : Heap) : Prop where
  kin : K.In base
  glob : base.Ns mainGlobals mg
  blt : ∃ mb, base.Ns builtinsNs mb ∧ ∀ x : Str, x ≠ "__name__" → mb x = bootBuiltins x
  nolimit : base.NoLimit

/-- the context: a def's body (or a comprehension's block) running. base: fixed through the whole law; s₀, H₀: the entry; outer: the frames whose slots others may change (a def's callers); stack: all frames that run;
   ex: iterators that were made ahead of the entry and are walked here (a comprehension's); fn: the names whose cells were made at the entry (a def: all; a comprehension's block: its own); calm: not within an except suite; pn: pins that every state bears; xe: what is wanted of an exception that leaves the code -/
structure Cx where
  prog : Program
  w : World
  K : PySem.W.Frag
  mg : Str → Option Value
  base : Heap
  A : Around
  N : List Str
  s₀ : Shared
  H₀ : Hp
  env : Env
  outer : List Env
  stack : List Env
  ex : List Addr
  fn : Str → Bool
  calm : Bool
  pn : List (Addr × Obj)
  xe : Value → Shared → Prop
/-- the callers' frames -/
def frs (l : List Env) : List Addr := l.filterMap (·.frame)
abbrev Cx.fs (X : Cx) : List Addr := frs X.outer

def Vis (sc : Scope) (x : Str) : Prop := sc.names.lookup x = some .local ∨ sc.names.lookup x = some .cell ∨ sc.names.lookup x = some .free
def Loc (sc : Scope) (x : Str) : Prop := sc.names.lookup x = some .local ∨ sc.names.lookup x = some .cell
def Look (env : Env) (h : Heap) (m : Str → Option Value) (x : Str) (u : Value) : Prop :=
  (env.kindOf x = some .local ∧ m x = some u) ∨ ((env.kindOf x = some .cell ∨ env.kindOf x = some .free) ∧ ∃ c, env.cells.lookup x = some c ∧ h.IsCell c (some u))

structure Cx.Ok (X : Cx) : Prop where
  mod : Mod X.K X.mg X.base
  kind : X.env.scope.kind = .function
  glob : X.env.globals = mainGlobals
  blt : X.env.builtins = builtinsNs
  above : X.s₀.heap.objs.size ≤ X.env.locals
  inj : ∀ x y c, X.env.cells.lookup x = some c → X.env.cells.lookup y = some c → x = y
  has : ∀ x, (X.env.kindOf x = some .cell ∨ X.env.kindOf x = some .free) → ∃ c, X.env.cells.lookup x = some c
  cab : ∀ x c, X.fn x = true → X.env.cells.lookup x = some c → X.s₀.heap.objs.size ≤ c
  hd : X.calm = true → X.A.handled = none
  frames : X.A.frames = some X.stack
  stk : X.stack = X.outer ∨ (X.stack = X.env :: X.outer ∧ X.env.frame = some X.env.locals)
  exf : ∀ b ∈ X.ex, b ≠ X.env.locals ∧ ∀ x c, X.env.cells.lookup x = some c → c ≠ b
  bs : ∀ b o, X.base.get? b = some o → X.s₀.heap.get? b = some o ∧ X.H₀ b = none
  bsz : X.base.objs.size ≤ X.s₀.heap.objs.size
  noex : ∀ b o, X.base.get? b = some o → b ∉ X.ex
  exfs : ∀ b ∈ X.ex, b ∉ X.fs
  funs : X.s₀.heap.FunFrames X.base X.outer
  frf : ∀ b ∈ X.fs, X.H₀ b = none

structure Inv (X : Cx) (pins : List (Addr × Obj)) (σ : List (Option V)) (H : Hp) (s : Shared) : Prop where
  ok : X.Ok
  os : s.os = X.s₀.os
  bare : AllBare s.gens
  base : Un X.fs X.ex X.H₀ H X.s₀.heap s.heap
  loc : ∃ m, s.heap.Ns X.env.locals m ∧ ∀ (i : Nat) (x : Str) (v : V), X.N[i]? = some x → σ[i]? = some (some v) → Vis X.env.scope x → ∃ u, RelV v u ∧ Look X.env s.heap m x u
  cell : ∀ x c, X.env.cells.lookup x = some c → ∃ v, s.heap.IsCell c v
  free : H X.env.locals = none
  freeC : ∀ x c, X.env.cells.lookup x = some c → H c = none
  pin : ∀ p ∈ X.pn ++ pins, s.heap.get? p.1 = some p.2 ∧ H p.1 = none ∧ p.1 ≠ X.env.locals ∧ p.1 ∉ X.fs ∧ ∀ v, p.2.data ≠ .cell v
  hok : HOk X.prog X.w H s.heap
  len : σ.length = X.N.length

section
variable {X : Cx} {pins : List (Addr × Obj)} {σ : List (Option V)} {H H' : Hp} {s : Shared} {h' : Heap}

theorem Cx.Ok.nofr (ok : X.Ok) {b : Addr} {o : Obj} (e : X.base.get? b = some o) : b ∉ X.fs := fun hb => by
  have := (ok.funs.mem hb).1
  rw [e] at this; cases this
theorem Inv.bs (I : Inv X pins σ H s) : ∀ b o, X.base.get? b = some o → s.heap.get? b = some o ∧ H b = none := fun b o e =>
  ⟨I.base.keep b o (I.ok.bs b o e).1 (I.ok.bs b o e).2 (I.ok.nofr e) (I.ok.noex b o e), I.base.free b o (I.ok.bs b o e).1 (I.ok.bs b o e).2 (I.ok.noex b o e)⟩
theorem Inv.bk (I : Inv X pins σ H s) : ∀ b o, X.base.get? b = some o → s.heap.get? b = some o := fun b o e => (I.bs b o e).1
theorem Inv.mod (I : Inv X pins σ H s) : Mod X.K X.mg X.base := I.ok.mod
theorem Inv.kIn (I : Inv X pins σ H s) : X.K.In s.heap := I.ok.mod.kin.keeps I.bk
theorem Inv.lt (I : Inv X pins σ H s) : X.env.locals < s.heap.objs.size := let ⟨_, hn, _⟩ := I.loc; hn.lt
theorem Inv.sz (I : Inv X pins σ H s) : X.s₀.heap.objs.size ≤ s.heap.objs.size := Nat.le_trans I.ok.above (Nat.le_of_lt I.lt)
theorem Inv.nofs (I : Inv X pins σ H s) {a : Addr} (h : s.heap.objs.size ≤ a) : a ∉ X.fs := fun hb => by
  obtain ⟨_, o, ho, _⟩ := I.ok.funs.mem hb
  exact absurd (Nat.lt_of_lt_of_le (Heap.lt_size ho) (Nat.le_trans I.sz h)) (Nat.lt_irrefl _)
theorem Inv.cne (I : Inv X pins σ H s) : ∀ x c, X.env.cells.lookup x = some c → c ≠ X.env.locals := fun x c e z => by
  obtain ⟨v, o, ho, hd⟩ := I.cell x c e
  obtain ⟨m, ⟨o', es, ep, ho', hd', _⟩, _⟩ := I.loc
  rw [z, ho'] at ho; cases ho; rw [hd'] at hd; cases hd
theorem Inv.funs (I : Inv X pins σ H s) : s.heap.FunFrames X.base X.outer := by
  have all : ∀ (l : List Env), (∀ b ∈ frs l, b ∈ X.fs) → X.s₀.heap.FunFrames X.base l → s.heap.FunFrames X.base l := by
    intro l
    induction l with
    | nil => intro _ _; trivial
    | cons env r ih =>
      intro hs hl
      obtain ⟨hk, ⟨L, o, hf, hn, ho, hd⟩, hr⟩ := hl
      have hL : L ∈ X.fs := hs L (by unfold frs; rw [List.filterMap_cons, hf]; exact List.mem_cons_self)
      obtain ⟨sl, e⟩ := I.base.slot L o ho (I.ok.frf L hL) hL fun z => I.ok.exfs L z hL
      exact ⟨hk, ⟨L, _, hf, hn, e, hd⟩, ih (fun b hb => hs b (by unfold frs; rw [List.filterMap_cons, hf]; exact List.mem_cons_of_mem _ hb)) hr⟩
  exact all X.outer (fun _ hb => hb) I.ok.funs

/-- the frames that run, for a call -/
theorem Inv.stack (I : Inv X pins σ H s) : s.heap.FunFrames X.base X.stack := by
  rcases I.ok.stk with e | ⟨e, hf⟩
  · rw [e]; exact I.funs
  · rw [e]
    obtain ⟨m, hn, _⟩ := I.loc
    refine .cons (by rw [I.ok.kind]; decide) hf hn ?_ I.funs
    exact Heap.get?_none_of_le (Nat.le_trans I.ok.bsz I.ok.above)
theorem Inv.stkSub (I : Inv X pins σ H s) : ∀ b ∈ frs X.stack, b ∈ X.env.locals :: X.fs := fun b hb => by
  rcases I.ok.stk with e | ⟨e, hf⟩
  · rw [e] at hb; exact List.mem_cons_of_mem _ hb
  · rw [e] at hb
    unfold frs at hb
    rw [List.filterMap_cons, hf] at hb
    exact hb
theorem Inv.stkFree (I : Inv X pins σ H s) : ∀ b ∈ frs X.stack, H b = none := fun b hb => by
  rcases List.mem_cons.mp (I.stkSub b hb) with e | hb
  · rw [e]; exact I.free
  · obtain ⟨_, o, ho, _⟩ := I.ok.funs.mem hb
    exact I.base.free b o ho (I.ok.frf b hb) fun z => I.ok.exfs b z hb

/-- THE STEP: the untracked objects but the frame and the records at ch are kept (the callers' frames up to slots), the frame's map is kept, the new abstract heap is held -/
theorem Inv.step {g' : Array GenState} {t' : Nat} {d' : Drawn} {ch : List Addr} (I : Inv X pins σ H s)
    (hch : ∀ b ∈ ch, (b ∈ X.ex ∨ X.s₀.heap.objs.size ≤ b) ∧ b ≠ X.env.locals ∧ (∀ x c, X.env.cells.lookup x = some c → c ≠ b) ∧ ∀ p ∈ X.pn ++ pins, p.1 ≠ b)
    (keep : ∀ b o, b ≠ X.env.locals → b ∉ X.fs → b ∉ ch → s.heap.get? b = some o → H b = none → h'.get? b = some o)
    (slot : ∀ b o, b ≠ X.env.locals → b ∈ X.fs → b ∉ ch → s.heap.get? b = some o → H b = none → ∃ sl, h'.get? b = some { o with slots := sl }) (free : ∀ b o, b ∉ ch → s.heap.get? b = some o → H b = none → H' b = none)
    (there : ∀ b o, b ∉ ch → s.heap.get? b = some o → ∃ o', h'.get? b = some o')
    (tups : ∀ b xs, H b = some (.tup xs) → H' b = some (.tup xs)) (frzs : ∀ b o u, H b = some (.frz o u) → H' b = some (.frz o u)) (tbls : ∀ b ps, H b = some (.tbl ps) → ∃ more, H' b = some (.tbl (ps ++ more)))
    (ns : ∀ m, s.heap.Ns X.env.locals m → h'.Ns X.env.locals m) (hok : HOk X.prog X.w H' h') (hg : AllBare g') :
    Inv X pins σ H' { s with heap := h', gens := g', drawn := d', toks := t' } := by
  have neL : ∀ b o, X.s₀.heap.get? b = some o → b ≠ X.env.locals := fun b o e => Nat.ne_of_lt (Nat.lt_of_lt_of_le (Heap.lt_size e) I.ok.above)
  have neC : ∀ b o, X.s₀.heap.get? b = some o → b ∉ X.ex → b ∉ ch := fun b o e hx hb => by
    rcases (hch b hb).1 with z | z
    · exact hx z
    · exact absurd (Nat.lt_of_lt_of_le (Heap.lt_size e) z) (Nat.lt_irrefl _)
  have cellK : ∀ x c, X.env.cells.lookup x = some c → ∀ v, s.heap.IsCell c v → h'.IsCell c v := fun x c e v ⟨o, ho, hd⟩ => by
    have nch : c ∉ ch := fun z => (hch c z).2.2.1 x c e rfl
    by_cases hc : c ∈ X.fs
    · obtain ⟨sl, q⟩ := slot c o (I.cne x c e) hc nch ho (I.freeC x c e)
      exact ⟨_, q, hd⟩
    · exact ⟨o, keep c o (I.cne x c e) hc nch ho (I.freeC x c e), hd⟩
  refine ⟨I.ok, I.os, hg, ⟨fun b o e n hb hx => ?_, fun b o e n hb hx => ?_, fun b o e n hx => ?_, fun b o e hx => ?_, fun b xs e => tups b xs (I.base.tups b xs e), fun b o xs e => frzs b o xs (I.base.frzs b o xs e), fun b ps e => ?_⟩, ?_, fun x c e => ?_, ?_, fun x c e => ?_, fun p hp => ?_, hok, I.len⟩
  · exact keep b o (neL b o e) hb (neC b o e hx) (I.base.keep b o e n hb hx) (I.base.free b o e n hx)
  · obtain ⟨sl, e1⟩ := I.base.slot b o e n hb hx
    obtain ⟨sl', e2⟩ := slot b _ (neL b o e) hb (neC b o e hx) e1 (I.base.free b o e n hx)
    exact ⟨sl', e2⟩
  · obtain ⟨o', e1⟩ := I.base.there b o e hx
    exact free b o' (neC b o e hx) e1 (I.base.free b o e n hx)
  · obtain ⟨o', e1⟩ := I.base.there b o e hx
    exact there b o' (neC b o e hx) e1
  · obtain ⟨m1, e1⟩ := I.base.tbls b ps e
    obtain ⟨m2, e2⟩ := tbls b _ e1
    exact ⟨m1 ++ m2, by rw [e2, Array.append_assoc]⟩
  · obtain ⟨m, hn, hl⟩ := I.loc
    refine ⟨m, ns m hn, fun i x v e1 e2 e3 => ?_⟩
    obtain ⟨u, r, l⟩ := hl i x v e1 e2 e3
    refine ⟨u, r, ?_⟩
    rcases l with l | ⟨k, c, e, z⟩
    · exact .inl l
    · exact .inr ⟨k, c, e, cellK x c e _ z⟩
  · obtain ⟨v, z⟩ := I.cell x c e
    exact ⟨v, cellK x c e v z⟩
  · obtain ⟨m, ⟨o, _, _, ho, _⟩, _⟩ := I.loc
    exact free _ o (fun z => (hch _ z).2.1 rfl) ho I.free
  · obtain ⟨v, o, ho, hd⟩ := I.cell x c e
    exact free c o (fun z => (hch c z).2.2.1 x c e rfl) ho (I.freeC x c e)
  · obtain ⟨e, n, ne, nf, d⟩ := I.pin p hp
    have nch : p.1 ∉ ch := fun z => (hch p.1 z).2.2.2 p hp rfl
    exact ⟨keep p.1 p.2 ne nf nch e n, free p.1 p.2 nch e n, ne, nf, d⟩
/-- .. where the frame's own object is kept too -/
theorem Inv.un {t' : Nat} (I : Inv X pins σ H s) (u : Un X.fs [] H H' s.heap h') (hok : HOk X.prog X.w H' h') : Inv X pins σ H' { s with heap := h', toks := t' } := by
  obtain ⟨m, ⟨o, es, ep, ho, r⟩, _⟩ := id I.loc
  obtain ⟨sl, hL⟩ := u.any ho I.free (by simp)
  exact I.step (g' := s.gens) (d' := s.drawn) (ch := []) (fun _ z => nomatch z) (fun b o _ hb _ e n => u.keep b o e n hb (by simp)) (fun b o _ hb _ e n => u.slot b o e n hb (by simp)) (fun b o _ e n => u.free b o e n (by simp)) (fun b o _ e => u.there b o e (by simp)) u.tups u.frzs u.tbls (fun m' hm => by
    obtain ⟨o', es', ep', ho', r'⟩ := hm
    rw [ho] at ho'; cases ho'
    exact ⟨_, es', ep', hL, r'⟩) hok I.bare
/-- behind a call (or a comprehension's block): the slots of this frame may have changed too, the records at ch may have turned -/
theorem Inv.call {g' : Array GenState} {t' : Nat} {d' : Drawn} {ch : List Addr} (I : Inv X pins σ H s) (u : Un (frs X.stack) ch H H' s.heap h') (hok : HOk X.prog X.w H' h') (hg : AllBare g')
    (hch : ∀ b ∈ ch, (b ∈ X.ex ∨ X.s₀.heap.objs.size ≤ b) ∧ b ≠ X.env.locals ∧ (∀ x c, X.env.cells.lookup x = some c → c ≠ b) ∧ ∀ p ∈ X.pn ++ pins, p.1 ≠ b) :
    Inv X pins σ H' { s with heap := h', gens := g', drawn := d', toks := t' } := by
  obtain ⟨m, ⟨o, es, ep, ho, r⟩, _⟩ := id I.loc
  obtain ⟨sl, hL⟩ := u.any ho I.free fun z => (hch _ z).2.1 rfl
  exact I.step (ch := ch) hch (fun b o hL hb hc e n => u.keep b o e n (fun z => (List.mem_cons.mp (I.stkSub b z)).elim hL hb) hc) (fun b o _ _ hc e n => u.any e n hc) (fun b o hc e n => u.free b o e n hc) (fun b o hc e => u.there b o e hc) u.tups u.frzs u.tbls (fun m' hm => by
    obtain ⟨o', es', ep', ho', r'⟩ := hm
    rw [ho] at ho'; cases ho'
    exact ⟨_, es', ep', hL, r'⟩) hok hg
/-- an untracked record of ours (an iterator) has turned -/
theorem Inv.turned {t' : Nat} {it : Addr} (I : Inv X pins σ H s) (k : ∀ b o, b ≠ it → s.heap.get? b = some o → h'.get? b = some o) (hn : H it = none) (hL : it ≠ X.env.locals)
    (h1 : it ∈ X.ex ∨ X.s₀.heap.objs.size ≤ it) (h2 : ∀ x c, X.env.cells.lookup x = some c → c ≠ it) (h3 : ∀ p ∈ X.pn ++ pins, p.1 ≠ it) : Inv X pins σ H { s with heap := h', toks := t' } := by
  have nit : ∀ b u, H b = some u → b ≠ it := fun b u e z => by rw [z, hn] at e; cases e
  refine I.step (g' := s.gens) (d' := s.drawn) (ch := [it]) (fun b hb => ?_) (fun b o _ _ hc e _ => k b o (fun z => hc (by simp [z])) e) (fun b o _ _ hc e _ => ⟨o.slots, k b o (fun z => hc (by simp [z])) e⟩) (fun _ _ _ _ n => n)
    (fun b o hc e => ⟨o, k b o (fun z => hc (by simp [z])) e⟩) (fun _ _ e => e) (fun _ _ _ e => e) (fun b ps e => ⟨#[], by rw [e]; simp⟩) (fun m hm => ?_) (fun b u e => ?_) I.bare
  · have e : b = it := by simpa using hb
    subst e
    exact ⟨h1, hL, h2, h3⟩
  · obtain ⟨o, es, ep, ho, r⟩ := hm
    exact ⟨o, es, ep, k _ o (Ne.symm hL) ho, r⟩
  · refine (I.hok b u e).stay (fun c v hc q => k c v ?_ q) (fun _ q => q) fun _ _ q => q
    rcases hc with z | z
    · rw [z]; exact nit b u e
    · exact nit c _ z
theorem Inv.tok (I : Inv X pins σ H s) (t : Nat) : Inv X pins σ H { s with toks := t } := I.un (h' := s.heap) (t' := t) Un.refl I.hok
/-- all objects kept -/
theorem Inv.kept {t' : Nat} (I : Inv X pins σ H s) (k : ∀ b u, s.heap.get? b = some u → h'.get? b = some u) : Inv X pins σ H { s with heap := h', toks := t' } := I.un (Un.kept k) (I.hok.kept k)
/-- a new object laid and tracked -/
theorem Inv.laid {a : Addr} {o : HO} {t' : Nat} (I : Inv X pins σ H s) (k : ∀ b u, s.heap.get? b = some u → h'.get? b = some u) (hp : s.heap.objs.size ≤ a) (new : ObjOk X.prog X.w (upd H a o) h' a o) :
    Inv X pins σ (upd H a o) { s with heap := h', toks := t' } := I.un (Un.laid k hp (I.hok.fresh hp)) (I.hok.laid k hp new)
/-- an object written -/
theorem Inv.write {x e : Addr} {o : HO} {t' : Nat} (I : Inv X pins σ H s) (mu : Mut (H x)) (he : e = x ∨ H e = some (.own x)) (k : ∀ b u, b ≠ e → s.heap.get? b = some u → h'.get? b = some u) (heo : ∃ u, h'.get? e = some u)
    (new : ObjOk X.prog X.w (upd H x o) h' x o) : Inv X pins σ (upd H x o) { s with heap := h', toks := t' } := I.un (Un.write mu he k heo) (I.hok.write mu he k heo new)
theorem Inv.pins_of {pins' : List (Addr × Obj)} (I : Inv X pins σ H s) (h : ∀ p ∈ pins', s.heap.get? p.1 = some p.2 ∧ H p.1 = none ∧ p.1 ≠ X.env.locals ∧ p.1 ∉ X.fs ∧ ∀ v, p.2.data ≠ .cell v) : Inv X pins' σ H s :=
  ⟨I.ok, I.os, I.bare, I.base, I.loc, I.cell, I.free, I.freeC, fun p hp => (List.mem_append.mp hp).elim (fun z => I.pin p (List.mem_append_left _ z)) (h p), I.hok, I.len⟩

theorem nodup_ix {N : List Str} (hN : N.Nodup) {i j : Nat} {x : Str} (a : N[i]? = some x) (b : N[j]? = some x) : i = j := by
  obtain ⟨h1, e1⟩ := List.getElem?_eq_some_iff.mp a
  obtain ⟨h2, e2⟩ := List.getElem?_eq_some_iff.mp b
  exact (List.getElem_inj hN).mp (e1.trans e2.symm)

/-- a name is stored; what changed -/
theorem store_ok2 {M : Model} {A : Around} {E : Value → Shared → Prop} {i : Nat} {x : Str} {v : V} {u : Value} {Q : Unit → Shared → Prop} (I : Inv X pins σ H s) (hN : X.N.Nodup) (hi : X.N[i]? = some x) (hx : Loc X.env.scope x) (r : RelV v u)
    (h : ∀ s', Inv X pins (σ.set i (some v)) H s' → (∃ a, Heap.SameBut a s.heap s'.heap ∧ (a = X.env.locals ∨ X.env.cells.lookup x = some a)) → Q () s') (hf : X.fn x = true ∨ X.env.scope.names.lookup x = some .local := by first | exact .inl rfl | exact .inr rfl | assumption) : wpAny M A (storeName X.env x u) Q E s := by
  obtain ⟨m, hn, hl⟩ := id I.loc
  have hcls : (X.env.scope.kind == .class || (X.env.scope.kind == .module && X.env.locals != X.env.globals)) = false := by rw [I.ok.kind]; rfl
  have hiσ : i < σ.length := by rw [I.len]; exact (List.getElem?_eq_some_iff.mp hi).1
  have cne := I.cne
  have tracked : ∀ {a : Addr} {h' : Heap}, (∃ o, s.heap.get? a = some o ∧ H a = none) → Heap.SameBut a s.heap h' → HOk X.prog X.w H h' := fun {a h'} ha hs b ob e => by
    obtain ⟨_, _, hfree⟩ := ha
    refine (I.hok b ob e).stay (fun c w' hc q => (hs.2 c ?_).trans q) (fun _ q => q) fun _ _ q => q
    rintro rfl
    rcases hc with rfl | hc
    · rw [hfree] at e; cases e
    · rw [hfree] at hc; cases hc
  rcases hx with hk | hk
  · refine wpAny_storeName_local hk hn (fun h' hn' hs => ?_) hcls
    obtain ⟨oL, _, _, hoL, _⟩ := id hn
    refine h _ ⟨I.ok, I.os, I.bare, ⟨fun b o e n hb hx => ?_, fun b o e n hb hx => ?_, I.base.free, fun b o e hx => ?_, I.base.tups, I.base.frzs, I.base.tbls⟩, ⟨_, hn', fun j y v' e1 e2 e3 => ?_⟩, fun y c e => ?_, I.free, I.freeC, fun p hp => ?_, tracked ⟨oL, hoL, I.free⟩ hs, by simpa using I.len⟩ ⟨_, hs, .inl rfl⟩
    · exact (hs.2 b (Nat.ne_of_lt (Nat.lt_of_lt_of_le (Heap.lt_size e) I.ok.above))).trans (I.base.keep b o e n hb hx)
    · obtain ⟨sl, e1⟩ := I.base.slot b o e n hb hx
      exact ⟨sl, (hs.2 b (Nat.ne_of_lt (Nat.lt_of_lt_of_le (Heap.lt_size e) I.ok.above))).trans e1⟩
    · obtain ⟨o', e1⟩ := I.base.there b o e hx
      exact ⟨o', (hs.2 b (Nat.ne_of_lt (Nat.lt_of_lt_of_le (Heap.lt_size e) I.ok.above))).trans e1⟩
    · by_cases hj : j = i
      · subst hj
        rw [hi] at e1; cases e1
        rw [List.getElem?_set_self hiσ] at e2
        cases e2
        exact ⟨u, r, .inl ⟨hk, by simp⟩⟩
      · rw [List.getElem?_set_ne (Ne.symm hj)] at e2
        obtain ⟨u', r', q⟩ := hl j y v' e1 e2 e3
        refine ⟨u', r', ?_⟩
        rcases q with ⟨k, e⟩ | ⟨k, c, e, z⟩
        · refine .inl ⟨k, ?_⟩
          have : y ≠ x := fun e => hj (nodup_ix hN e1 (e ▸ hi))
          simp [this, e]
        · exact .inr ⟨k, c, e, z.sameBut hs (cne y c e)⟩
    · obtain ⟨w', z⟩ := I.cell y c e
      exact ⟨w', z.sameBut hs (cne y c e)⟩
    · obtain ⟨e, n, ne, nf, d⟩ := I.pin p hp
      exact ⟨(hs.2 p.1 ne).trans e, n, ne, nf, d⟩
  · have hfn : X.fn x = true := by
      rcases hf with z | z
      · exact z
      · rw [z] at hk; cases hk
    obtain ⟨c, hc⟩ := I.ok.has x (.inl hk)
    obtain ⟨w', z⟩ := I.cell x c hc
    refine wpAny_storeName_cell I.ok.kind hk hc z (fun h' hc' hs => ?_)
    obtain ⟨oc, hoc, hocd⟩ := id z
    refine h { s with heap := h' } ⟨I.ok, I.os, I.bare, ⟨fun b o e n hb hx => ?_, fun b o e n hb hx => ?_, I.base.free, fun b o e hx => ?_, I.base.tups, I.base.frzs, I.base.tbls⟩, ⟨m, hn.sameBut hs (Ne.symm (cne x c hc)), fun j y v' e1 e2 e3 => ?_⟩, fun y c' e => ?_, I.free, I.freeC, fun p hp => ?_, tracked ⟨oc, hoc, I.freeC x c hc⟩ hs, by simpa using I.len⟩ ⟨c, hs, .inr hc⟩
    · exact (hs.2 b (Nat.ne_of_lt (Nat.lt_of_lt_of_le (Heap.lt_size e) (I.ok.cab x c hfn hc)))).trans (I.base.keep b o e n hb hx)
    · obtain ⟨sl, e1⟩ := I.base.slot b o e n hb hx
      exact ⟨sl, (hs.2 b (Nat.ne_of_lt (Nat.lt_of_lt_of_le (Heap.lt_size e) (I.ok.cab x c hfn hc)))).trans e1⟩
    · obtain ⟨o', e1⟩ := I.base.there b o e hx
      exact ⟨o', (hs.2 b (Nat.ne_of_lt (Nat.lt_of_lt_of_le (Heap.lt_size e) (I.ok.cab x c hfn hc)))).trans e1⟩
    · by_cases hj : j = i
      · subst hj
        rw [hi] at e1; cases e1
        rw [List.getElem?_set_self hiσ] at e2
        cases e2
        exact ⟨u, r, .inr ⟨.inl hk, c, hc, hc'⟩⟩
      · rw [List.getElem?_set_ne (Ne.symm hj)] at e2
        obtain ⟨u', r', q⟩ := hl j y v' e1 e2 e3
        refine ⟨u', r', ?_⟩
        rcases q with q | ⟨k, c', e, z'⟩
        · exact .inl q
        · refine .inr ⟨k, c', e, z'.sameBut hs ?_⟩
          rintro rfl
          exact hj (nodup_ix hN e1 (I.ok.inj _ _ _ e hc ▸ hi))
    · by_cases hcc : c' = c
      · subst hcc; exact ⟨_, hc'⟩
      · obtain ⟨w2, z2⟩ := I.cell y c' e
        exact ⟨w2, z2.sameBut hs hcc⟩
    · obtain ⟨e, n, ne, nf, d⟩ := I.pin p hp
      refine ⟨(hs.2 p.1 ?_).trans e, n, ne, nf, d⟩
      intro q
      rw [q, hoc] at e
      have q' : oc = p.2 := Option.some.inj e
      exact d w' (by rw [← q']; exact hocd)
theorem store_ok {M : Model} {A : Around} {E : Value → Shared → Prop} {i : Nat} {x : Str} {v : V} {u : Value} {Q : Unit → Shared → Prop} (I : Inv X pins σ H s) (hN : X.N.Nodup) (hi : X.N[i]? = some x) (hx : Loc X.env.scope x) (r : RelV v u)
    (h : ∀ s', Inv X pins (σ.set i (some v)) H s' → Q () s') (hf : X.fn x = true ∨ X.env.scope.names.lookup x = some .local := by first | exact .inl rfl | exact .inr rfl | assumption) : wpAny M A (storeName X.env x u) Q E s :=
  store_ok2 I hN hi hx r (fun s' I' _ => h s' I') hf
/-- behind a call or a block, the state as it is -/
theorem Inv.call' {s' : Shared} {ch : List Addr} (I : Inv X pins σ H s) (ho : s'.os = s.os) (u : Un (frs X.stack) ch H H' s.heap s'.heap) (hok : HOk X.prog X.w H' s'.heap) (hg : AllBare s'.gens)
    (hch : ∀ b ∈ ch, (b ∈ X.ex ∨ X.s₀.heap.objs.size ≤ b) ∧ b ≠ X.env.locals ∧ (∀ x c, X.env.cells.lookup x = some c → c ≠ b) ∧ ∀ p ∈ X.pn ++ pins, p.1 ≠ b) : Inv X pins σ H' s' := by
  obtain ⟨h', g', d', t', o'⟩ := s'
  have e : o' = s.os := ho
  subst e
  exact I.call (g' := g') (t' := t') (d' := d') u hok hg hch
end

/-! ### the judgements -/
/-- an exception: its class, its own dict's address (where it has one), the abstract heap behind it -/
abbrev XK := Value → Option Addr → Hp → Prop
abbrev St := List (Option V)
abbrev VK := V → Hp → Prop
/-- an expression's reading; a test's; an argument list's -/
abbrev TE := St → Hp → VK → Prop
abbrev TT := St → Hp → (Bool → Hp → Prop) → Prop
abbrev TA := St → Hp → (List V → Hp → Prop) → Prop
/-- what is wanted behind a statement -/
structure Ends where
  nx : St → Hp → Prop
  rt : VK
  bk : St → Hp → Prop := fun _ _ => False
  ct : St → Hp → Prop := fun _ _ => False
abbrev TS := Ends → St → Hp → Prop

def EP (X : Cx) (pins : List (Addr × Obj)) (σ : St) (Q : VK) (u : Value) (s' : Shared) : Prop := ∃ v H', Inv X pins σ H' s' ∧ RelV v u ∧ Q v H'
def TP (X : Cx) (pins : List (Addr × Obj)) (σ : St) (Q : Bool → Hp → Prop) (b : Bool) (s' : Shared) : Prop := ∃ H', Inv X pins σ H' s' ∧ Q b H'
def AP (X : Cx) (pins : List (Addr × Obj)) (σ : St) (Q : List V → Hp → Prop) (us : List Value) (s' : Shared) : Prop := ∃ vs H', Inv X pins σ H' s' ∧ Vals vs us ∧ Q vs H'
def SP (X : Cx) (pins : List (Addr × Obj)) (D : Ends) (f : Flow) (s' : Shared) : Prop :=
  match f with
  | .next => ∃ σ' H', Inv X pins σ' H' s' ∧ D.nx σ' H'
  | .brk => ∃ σ' H', Inv X pins σ' H' s' ∧ D.bk σ' H'
  | .cont => ∃ σ' H', Inv X pins σ' H' s' ∧ D.ct σ' H'
  | .ret u => ∃ v σ' H', Inv X pins σ' H' s' ∧ RelV v u ∧ D.rt v H'

def PE (X : Cx) (e : Expr) (t : TE) : Prop :=
  ∀ (pins : List (Addr × Obj)) (s : Shared) (σ : St) (H : Hp) (Q : VK), Inv X pins σ H s → t σ H Q → wpAny (model X.prog X.w) X.A (eval e X.env) (EP X pins σ Q) X.xe s
def PT (X : Cx) (e : Expr) (t : TT) : Prop :=
  ∀ (pins : List (Addr × Obj)) (s : Shared) (σ : St) (H : Hp) (Q : Bool → Hp → Prop), Inv X pins σ H s → t σ H Q → wpAny (model X.prog X.w) X.A (isTrue e X.env (eval e X.env)) (TP X pins σ Q) X.xe s
/-- a test whatever its 'whole' is (and, or) -/
def PW (X : Cx) (e : Expr) (t : TT) : Prop :=
  ∀ (whole : Sem Value) (pins : List (Addr × Obj)) (s : Shared) (σ : St) (H : Hp) (Q : Bool → Hp → Prop), Inv X pins σ H s → t σ H Q → wpAny (model X.prog X.w) X.A (isTrue e X.env whole) (TP X pins σ Q) X.xe s
theorem PW.pt {X : Cx} {e : Expr} {t : TT} (h : PW X e t) : PT X e t := h _
/-- an argument list (no star), from the left -/
def PA (X : Cx) (es : List Expr) (t : TA) : Prop :=
  ∀ (pos : Pos) (pins : List (Addr × Obj)) (s : Shared) (σ : St) (H : Hp) (Q : List V → Hp → Prop), Inv X pins σ H s → t σ H Q → wpAny (model X.prog X.w) X.A (spliced (backTo pos (starEach es X.env))) (AP X pins σ Q) X.xe s
def PS (X : Cx) (st : Stmt) (t : TS) : Prop :=
  ∀ (pins : List (Addr × Obj)) (s : Shared) (σ : St) (H : Hp) (D : Ends), Inv X pins σ H s → t D σ H → wpAny (model X.prog X.w) X.A (exec st X.env) (SP X pins D) X.xe s
def PSs (X : Cx) (st : List Stmt) (t : TS) : Prop :=
  ∀ (pins : List (Addr × Obj)) (s : Shared) (σ : St) (H : Hp) (D : Ends), Inv X pins σ H s → t D σ H → wpAny (model X.prog X.w) X.A (execs st X.env) (SP X pins D) X.xe s
/-- weaken the end -/
theorem thn {α : Type} {t : Sem α} {Q Q' : α → Shared → Prop} {M : Model} {A : Around} {E : Value → Shared → Prop} {s : Shared} (h : wpAny M A t Q E s) (hQ : ∀ a s, Q a s → Q' a s) : wpAny M A t Q' E s := wpAny_mono h hQ fun _ _ x => x
end L2

namespace L2
open PySem PySem.Spec PyProof.Rows
section
variable {X : Cx}

/-- two expressions in a row -/
theorem bin {a b : Expr} {ta tb : TE} (ha : PE X a ta) (hb : PE X b tb) {pins : List (Addr × Obj)} {s : Shared} {σ : St} {H : Hp} {R : V → V → Hp → Prop} (I : Inv X pins σ H s) (h : ta σ H fun x H1 => tb σ H1 fun y H2 => R x y H2)
    {α : Type} {Q : α → Shared → Prop} {f : Value → Value → Sem α}
    (hf : ∀ v u s2 x y H2, Inv X pins σ H2 s2 → RelV x v → RelV y u → R x y H2 → wpAny (model X.prog X.w) X.A (f v u) Q X.xe s2) :
    wpAny (model X.prog X.w) X.A (eval a X.env) (fun v s₁ => wpAny (model X.prog X.w) X.A (eval b X.env) (fun u s₂ => wpAny (model X.prog X.w) X.A (f v u) Q X.xe s₂) X.xe s₁) X.xe s := by
  refine thn (ha pins s σ H _ I h) fun v s1 ⟨x, H1, I1, r1, q1⟩ => ?_
  refine thn (hb pins s1 σ H1 _ I1 q1) fun u s2 ⟨y, H2, I2, r2, q2⟩ => ?_
  exact hf v u s2 x y H2 I2 r1 r2 q2

/-! ### names and constants -/
def tVar (i : Nat) : TE := fun σ H Q => ∃ v, σ[i]? = some (some v) ∧ Q v H
def tC (v : V) : TE := fun _ H Q => Q v H
theorem pe_var {i : Nat} {x : Str} {pos : Pos} (hN : X.N[i]? = some x) (hv : Vis X.env.scope x) (hd : (x == ("__debug__" : Str)) = false := by decide) (hcd : (x == ("__classdict__" : Str)) = false := by decide) : PE X (.Name x pos) (tVar i) := by
  intro pins s σ H Q I h
  obtain ⟨v, e, h⟩ := h
  obtain ⟨m, hn, hl⟩ := I.loc
  obtain ⟨u, r, l⟩ := hl i x v hN e hv
  have fin : EP X pins σ Q u s := ⟨v, H, I, r, h⟩
  rcases l with ⟨hk, hm⟩ | ⟨hk, c, hc, hcell⟩
  · exact wpAny_Name (wpAny_loadName_local I.ok.kind hk hn hm fin) hd
  · rcases hk with hk | hk
    · exact wpAny_Name (wpAny_loadName_cell I.ok.kind hk hc hcell fin) hd
    · exact wpAny_Name (wpAny_loadName_free I.ok.kind hk hc hcell fin hcd) hd
theorem pe_int {i j pos} : PE X (.Constant (.int i) j pos) (tC (.int i)) := fun _ _ _ H _ I h => wpAny_Constant_int ⟨.int i, H, I.tok _, ⟨_, rfl⟩, h⟩
theorem pe_bl {b j pos} : PE X (.Constant (.bool b) j pos) (tC (.bl b)) := fun _ _ _ H _ I h => Constant_bool ⟨.bl b, H, I, rfl, h⟩
/-- a global name of the def -/
def Gl (X : Cx) (x : Str) : Prop := X.env.kindOf x = some .globalImplicit
theorem ld_glob {E : Value → Shared → Prop} {pins : List (Addr × Obj)} {s : Shared} {σ : St} {H : Hp} {x : Str} {u : Value} {pos : Pos} {Q : Value → Shared → Prop} (I : Inv X pins σ H s) (hg : Gl X x) (hm : X.mg x = some u) (h : Q u s)
    (hd : (x == ("__debug__" : Str)) = false := by decide) : wpAny (model X.prog X.w) X.A (eval (.Name x pos) X.env) Q E s :=
  Calls.Name_function_global I.ok.kind hg (Calls.loadGlobal_global (by rw [I.ok.glob]; exact I.mod.glob.keeps I.bk) hm h) hd
theorem ld_blt {E : Value → Shared → Prop} {pins : List (Addr × Obj)} {s : Shared} {σ : St} {H : Hp} {x : Str} {u : Value} {pos : Pos} {Q : Value → Shared → Prop} (I : Inv X pins σ H s) (hg : Gl X x) (hm : X.mg x = none) (hv : bootBuiltins x = some u) (h : Q u s)
    (hn : x ≠ "__name__" := by decide) (hd : (x == ("__debug__" : Str)) = false := by decide) : wpAny (model X.prog X.w) X.A (eval (.Name x pos) X.env) Q E s := by
  obtain ⟨mb, h1, h2⟩ := I.mod.blt
  exact Calls.Name_function_global I.ok.kind hg (Calls.loadGlobal_builtin (by rw [I.ok.glob]; exact I.mod.glob.keeps I.bk) hm (by rw [I.ok.blt]; exact h1.keeps I.bk) ((h2 x hn).trans hv) h) hd
theorem pe_bltn {x : Str} {v : V} {u : Value} {pos : Pos} (hg : Gl X x) (hm : X.mg x = none) (hv : bootBuiltins x = some u) (r : RelV v u) (hn : x ≠ "__name__" := by decide) (hd : (x == ("__debug__" : Str)) = false := by decide) : PE X (.Name x pos) (tC v) :=
  fun _ _ _ H _ I h => ld_blt I hg hm hv ⟨v, H, I, r, h⟩ hn hd

/-! ### arithmetic -/
/-- two ints -/
def t2I (ta tb : TE) (k : Int → Int → Hp → Prop) : St → Hp → Prop := fun σ H => ta σ H fun x H1 => tb σ H1 fun y H2 => ∃ i j, x = .int i ∧ y = .int j ∧ k i j H2
variable {a b : Expr} {ta tb : TE} {pos : Pos}
/-! ### comparisons -/
def tCmp (p : Int → Int → Bool) (ta tb : TE) : TE := fun σ H Q => t2I ta tb (fun i j H2 => Q (.bl (p i j)) H2) σ H
abbrev tLt : TE → TE → TE := tCmp fun i j => decide (i < j)
abbrev tLe : TE → TE → TE := tCmp fun i j => decide (i ≤ j)
abbrev tGt : TE → TE → TE := tCmp fun i j => decide (j < i)
abbrev tGe : TE → TE → TE := tCmp fun i j => decide (j ≤ i)
abbrev tEqI : TE → TE → TE := tCmp fun i j => decide (i = j)
abbrev tNeI : TE → TE → TE := tCmp fun i j => !decide (i = j)
/-! ### and, or, not -/
variable {tA tB' : TT} {rest : List Expr}
def tNot (t : TT) : TT := fun σ H Q => t σ H fun c H1 => Q (!c) H1
theorem pw_and1 (ha : PT X a tA) : PW X (.BoolOp .And [a] pos) tA := by
  intro wh pins s σ H Q I h
  refine isTrue_and (thn (ha pins s σ H Q I h) fun c s1 e => ?_)
  cases c with
  | true => exact isTrue_and_nil e
  | false => exact e
theorem pw_or1 (ha : PT X a tA) : PW X (.BoolOp .Or [a] pos) tA := by
  intro wh pins s σ H Q I h
  refine isTrue_or (thn (ha pins s σ H Q I h) fun c s1 e => ?_)
  cases c with
  | false => exact isTrue_or_nil e
  | true => exact e
theorem pt_not (ha : PT X a tA) : PT X (.UnaryOp .Not a pos) (tNot tA) := by
  intro pins s σ H Q I h
  exact isTrue_not (ha pins s σ H (fun c H1 => Q (!c) H1) I h)
end
end L2

namespace L2
open PySem PySem.Spec PyProof.Rows

/-! ### a list, a tuple that is read: tracked, frozen, or an object of the module -/
def SqL (K : PySem.W.Frag) (H : Hp) (a : Addr) (xs : List V) : Prop :=
  Rd H a (.lst xs) ∨
    ∃ (o : Obj) (its : Array Value) (n : Nat), K.lookup a = some o ∧ o.cls = .type "list" ∧ o.dict = none ∧ o.data = .seq its n ∧ its.size ≤ sizeLine ∧ Vals xs its.toList
def SqT (K : PySem.W.Frag) (H : Hp) (a : Addr) (xs : List V) : Prop :=
  Rd H a (.tup xs) ∨
    ∃ (o : Obj) (its : Array Value) (n : Nat), K.lookup a = some o ∧ o.cls = .type "tuple" ∧ o.data = .seq its n ∧ its.size ≤ sizeLine ∧ Vals xs its.toList
def absV : Value → Option V
  | .none => some .non
  | .bool b => some (.bl b)
  | .int i _ => some (.int i)
  | .str x _ => some (.str x)
  | .bytes b _ => some (.byt b)
  | .float b _ => some (.flt b)
  | .ref a => some (.ref a)
  | .type n => some (.ty n)
  | _ => none
theorem RelV.abs {x : V} {u : Value} (r : RelV x u) : absV u = some x := by
  cases x with
  | non => cases r; rfl
  | bl _ => cases r; rfl
  | int _ => obtain ⟨t, rfl⟩ := r; rfl
  | str _ => obtain ⟨t, rfl⟩ := r; rfl
  | byt _ => obtain ⟨t, rfl⟩ := r; rfl
  | flt _ => obtain ⟨t, rfl⟩ := r; rfl
  | ref _ => cases r; rfl
  | ty _ => cases r; rfl
theorem RelV.inj {x y : V} {u : Value} (r : RelV x u) (q : RelV y u) : x = y := Option.some.inj (r.abs.symm.trans q.abs)
theorem Vals.inj : ∀ {xs ys : List V} {us : List Value}, Vals xs us → Vals ys us → xs = ys
  | _, _, _, .nil, .nil => rfl
  | _, _, _, .cons r t, .cons r' t' => by rw [r.inj r', Vals.inj t t']
section
variable {X : Cx} {pins : List (Addr × Obj)} {σ : St} {H : Hp} {s : Shared} {a : Addr} {xs ys : List V}
theorem SqL.of {K : PySem.W.Frag} (h : H a = some (.lst xs)) : SqL K H a xs := .inl (.inl h)
theorem SqT.of {K : PySem.W.Frag} (h : H a = some (.tup xs)) : SqT K H a xs := .inl (.inl h)
theorem Inv.list (I : Inv X pins σ H s) (h : SqL X.K H a xs) : ∃ its : List Value, Vals xs its ∧ PlainL s.heap a its.toArray ∧ xs.length ≤ sizeLine := by
  rcases h with h | ⟨o, its, n, hk, hc, hd, hs, hz, r⟩
  · obtain ⟨z, its, n, r, e⟩ := h.ok I.hok
    exact ⟨its, r, ⟨_, n, e, rfl, rfl, rfl⟩, z⟩
  · refine ⟨its.toList, r, ⟨o, n, I.kIn a o hk, hc, hd, by simpa using hs⟩, ?_⟩
    have e := r.length
    simp only [Array.length_toList] at e
    omega
theorem Inv.tuple (I : Inv X pins σ H s) (h : SqT X.K H a xs) : ∃ its : List Value, Vals xs its ∧ IsTup s.heap a its.toArray ∧ xs.length ≤ sizeLine := by
  rcases h with h | ⟨o, its, n, hk, hc, hs, hz, r⟩
  · obtain ⟨z, its, r, p⟩ := h.ok I.hok
    exact ⟨its, r, p, z⟩
  · refine ⟨its.toList, r, ⟨o, I.kIn a o hk, hc, n, by simpa using hs⟩, ?_⟩
    have e := r.length
    simp only [Array.length_toList] at e
    omega
theorem Inv.list_inj (I : Inv X pins σ H s) (h : SqL X.K H a xs) (h' : SqL X.K H a ys) : xs = ys := by
  obtain ⟨its, r, ⟨o, n, e, _, _, d⟩, _⟩ := I.list h
  obtain ⟨its', r', ⟨o', n', e', _, _, d'⟩, _⟩ := I.list h'
  rw [e] at e'; cases e'
  rw [d] at d'
  injection d' with d1 _
  have : its = its' := by simpa using congrArg Array.toList d1
  subst this
  exact r.inj r'
end

/-! ### another wish about exceptions -/
abbrev Cx.wish (X : Cx) (E : Value → Shared → Prop) : Cx := { X with xe := E }
/-- no exception leaves -/
abbrev Cx.nox (X : Cx) : Cx := X.wish fun _ _ => False
theorem Cx.Ok.wish {X : Cx} (ok : X.Ok) (E : Value → Shared → Prop) : (X.wish E).Ok :=
  ⟨ok.mod, ok.kind, ok.glob, ok.blt, ok.above, ok.inj, ok.has, ok.cab, ok.hd, ok.frames, ok.stk, ok.exf, ok.bs, ok.bsz, ok.noex, ok.exfs, ok.funs, ok.frf⟩
theorem Cx.Ok.unwish {X : Cx} {E : Value → Shared → Prop} (ok : (X.wish E).Ok) : X.Ok :=
  ⟨ok.mod, ok.kind, ok.glob, ok.blt, ok.above, ok.inj, ok.has, ok.cab, ok.hd, ok.frames, ok.stk, ok.exf, ok.bs, ok.bsz, ok.noex, ok.exfs, ok.funs, ok.frf⟩
section
variable {X : Cx} {pins : List (Addr × Obj)} {σ : St} {H : Hp} {s : Shared} {E : Value → Shared → Prop}
theorem Inv.wish (I : Inv X pins σ H s) (E : Value → Shared → Prop) : Inv (X.wish E) pins σ H s := ⟨I.ok.wish E, I.os, I.bare, I.base, I.loc, I.cell, I.free, I.freeC, I.pin, I.hok, I.len⟩
theorem Inv.unwish (I : Inv (X.wish E) pins σ H s) : Inv X pins σ H s := ⟨I.ok.unwish, I.os, I.bare, I.base, I.loc, I.cell, I.free, I.freeC, I.pin, I.hok, I.len⟩
theorem SP.unwish {D : Ends} {f : Flow} {s' : Shared} (h : SP (X.wish E) pins D f s') : SP X pins D f s' := by
  cases f with
  | next => obtain ⟨σ', H', I, q⟩ := h; exact ⟨σ', H', I.unwish, q⟩
  | brk => obtain ⟨σ', H', I, q⟩ := h; exact ⟨σ', H', I.unwish, q⟩
  | cont => obtain ⟨σ', H', I, q⟩ := h; exact ⟨σ', H', I.unwish, q⟩
  | ret u => obtain ⟨v, σ', H', I, r, q⟩ := h; exact ⟨v, σ', H', I.unwish, r, q⟩
theorem PSs.nox {st : List Stmt} {t : TS} (h : PSs X.nox st t) : PSs X st t := fun pins s σ H D I hw =>
  wpAny_mono (h pins s σ H D (I.wish _) hw) (fun _ _ q => q.unwish) fun _ _ z => False.elim z
end

/-! ### blocks and small statements -/
section
variable {X : Cx} {st : Stmt} {rest : List Stmt} {t u : TS} {e : Expr} {te : TE} {pos : Pos}
def tNext : TS := fun D σ H => D.nx σ H
def tSeq (t u : TS) : TS := fun D σ H => t { D with nx := u D } σ H
theorem pss_nil : PSs X [] tNext := fun _ _ σ H _ I h => wpAny_execs_nil ⟨σ, H, I, h⟩
theorem pss_cons (h1 : PS X st t) (h2 : PSs X rest u) : PSs X (st :: rest) (tSeq t u) := by
  intro pins s σ H D I h
  refine wpAny_execs_cons (thn (h1 pins s σ H { D with nx := u D } I h) fun f s1 q => ?_)
  cases f with
  | next =>
    obtain ⟨σ', H', I', q⟩ := q
    exact h2 pins s1 σ' H' D I' q
  | ret v => exact q
  | brk => exact q
  | cont => exact q
theorem pss_one (h1 : PS X st t) : PSs X [st] t := by
  intro pins s σ H D I h
  refine wpAny_execs_cons (thn (h1 pins s σ H D I h) fun f s1 q => ?_)
  cases f with
  | next => exact wpAny_execs_nil q
  | ret v => exact q
  | brk => exact q
  | cont => exact q
/-- in a def's body nothing is shown -/
theorem Inv.quiet {pins : List (Addr × Obj)} {σ : St} {H : Hp} {s : Shared} (I : Inv X pins σ H s) : interactive X.env = false := by simp [interactive, I.ok.kind]
/-- an expression whose value is dropped -/
def tDrop (te : TE) : TS := fun D σ H => te σ H fun _ H1 => D.nx σ H1
theorem ps_expr (he : PE X e te) (hs : swapsWith e none pos.line X.env = pure false := by rfl) : PS X (.Expr e pos) (tDrop te) := by
  intro pins s σ H D I h
  exact wpAny_Expr_any (thn (he pins s σ H _ I h) fun v s1 ⟨x, H1, I1, r1, q1⟩ => ⟨σ, H1, I1, q1⟩) I.quiet hs
def tRet (te : TE) : TS := fun D σ H => te σ H D.rt
theorem ps_ret (he : PE X e te) : PS X (.Return (some e) pos) (tRet te) := by
  intro pins s σ H D I h
  exact wpAny_Return_some (thn (he pins s σ H _ I h) fun v s1 ⟨x, H1, I1, r1, q1⟩ => ⟨x, σ, H1, I1, r1, q1⟩)
end

/-! ### targets -/
abbrev TG := V → St → Hp → (St → Hp → Prop) → Prop
abbrev TGs := List V → St → Hp → (St → Hp → Prop) → Prop
def PG (X : Cx) (target : Expr) (t : TG) : Prop :=
  ∀ (pins : List (Addr × Obj)) (s : Shared) (σ : St) (H : Hp) (v : V) (u : Value) (Q : St → Hp → Prop), Inv X pins σ H s → RelV v u → t v σ H Q →
    wpAny (model X.prog X.w) X.A (assign target X.env u) (fun _ s' => ∃ σ' H', Inv X pins σ' H' s' ∧ Q σ' H') X.xe s
/-- several targets, one after another -/
def PGs (X : Cx) (ts : List Expr) (t : TGs) : Prop :=
  ∀ (pins : List (Addr × Obj)) (s : Shared) (σ : St) (H : Hp) (vs : List V) (us : List Value) (Q : St → Hp → Prop), Inv X pins σ H s → Vals vs us → t vs σ H Q →
    wpAny (model X.prog X.w) X.A (assignInOrder ((assignEach ts X.env).map (·.2)) us) (fun _ s' => ∃ σ' H', Inv X pins σ' H' s' ∧ Q σ' H') X.xe s
/-- o[i] = v, by values -/
abbrev TSet := V → V → V → Hp → (Hp → Prop) → Prop
def PSet (X : Cx) (t : TSet) : Prop :=
  ∀ (pins : List (Addr × Obj)) (s : Shared) (σ : St) (H : Hp) (o i v : V) (ov iv u : Value) (Q : Hp → Prop), Inv X pins σ H s → RelV o ov → RelV i iv → RelV v u → t o i v H Q →
    wpAny (model X.prog X.w) X.A (setItem ov iv u) (fun _ s' => ∃ H', Inv X pins σ H' s' ∧ Q H') X.xe s
/-- a op= b, by values -/
abbrev TIp := V → V → Hp → VK → Prop
def PIp (X : Cx) (op : Operator) (t : TIp) : Prop :=
  ∀ (pins : List (Addr × Obj)) (s : Shared) (σ : St) (H : Hp) (x y : V) (v u : Value) (Q : VK), Inv X pins σ H s → RelV x v → RelV y u → t x y H Q →
    wpAny (model X.prog X.w) X.A (inplaceOp op v u) (EP X pins σ Q) X.xe s
section
variable {X : Cx} {pos : Pos}
def gName (i : Nat) : TG := fun v σ H Q => Q (σ.set i (some v)) H
theorem pg_name {i : Nat} {x : Str} (hN : X.N.Nodup) (hi : X.N[i]? = some x) (hx : Loc X.env.scope x) (hf : X.fn x = true ∨ X.env.scope.names.lookup x = some .local := by first | exact .inl rfl | exact .inr rfl | assumption) : PG X (.Name x pos) (gName i) := by
  intro pins s σ H v u Q I r h
  exact wpAny_assign_Name (store_ok I hN hi hx r (fun s' I' => ⟨_, H, I', h⟩) hf)
def gNil : TGs := fun vs σ H Q => vs = [] ∧ Q σ H
def gCons (t : TG) (u : TGs) : TGs := fun vs σ H Q => ∃ v r, vs = v :: r ∧ t v σ H fun σ' H' => u r σ' H' Q
theorem pgs_nil : PGs X [] gNil := by
  intro pins s σ H vs us Q I r h
  obtain ⟨e, h⟩ := h
  subst e
  cases r
  exact assignInOrder_nil ⟨σ, H, I, h⟩
theorem pgs_cons {e : Expr} {es : List Expr} {t : TG} {u : TGs} (h1 : PG X e t) (h2 : PGs X es u)
    (hs : (assignEach (e :: es) X.env).map (·.2) = assign e X.env :: (assignEach es X.env).map (·.2) := by rfl) : PGs X (e :: es) (gCons t u) := by
  intro pins s σ H vs us Q I r h
  obtain ⟨v, vr, e1, h⟩ := h
  subst e1
  cases r with
  | cons r rr =>
    rw [hs]
    refine assignInOrder_cons (thn (h1 pins s σ H _ _ _ I r h) fun _ s1 ⟨σ1, H1, I1, q1⟩ => ?_)
    exact h2 pins s1 σ1 H1 _ _ Q I1 rr q1
/-- (a, b, ..) = a tuple of that length -/
def gTup (K : PySem.W.Frag) (n : Nat) (t : TGs) : TG := fun v σ H Q => ∃ a xs, v = .ref a ∧ SqT K H a xs ∧ xs.length = n ∧ t xs σ H Q
theorem pg_tup {es : List Expr} {k : Nat} {t : TGs} {n : Nat} (hc : X.calm = true) (h : PGs X es t)
    (hn : (assignEach es X.env).length = n := by rfl) (hst : (assignEach es X.env).findIdx? (·.1) = none := by rfl) : PG X (.Tuple es k pos) (gTup X.K n t) := by
  intro pins s σ H v u Q I r hw
  obtain ⟨a, xs, e1, hq, hl, hw⟩ := hw
  subst e1
  cases r
  obtain ⟨its, rv, ht, hz⟩ := I.tuple hq
  refine assign_Tuple_tuple (I.ok.hd hc) ht (by simp [hn, ← hl, rv.length]) hst fun h' hx => ?_
  have I1 : Inv X pins σ H { s with heap := h' } := I.kept (t' := s.toks) fun b o e => hx b o (Nat.ne_of_lt (Heap.lt_size e)) e
  exact h pins _ σ H xs _ Q I1 (by simpa using rv) hw
/-- o[i] = .. -/
def gSub (to ti : TE) (t : TSet) : TG := fun v σ H Q => to σ H fun o H1 => ti σ H1 fun i H2 => t o i v H2 fun H3 => Q σ H3
theorem pg_sub {o i : Expr} {to ti : TE} {t : TSet} (ho : PE X o to) (hi : PE X i ti) (hs : PSet X t)
    (ha : ∀ v, assign (.Subscript o i pos) X.env v = (do
      let ov ← holding [v] (eval o X.env)
      let iv ← holding [v, ov] (eval i X.env)
      standAt pos
      holding [v, ov, iv] (setItem ov iv v)
      release [v, ov, iv] []) := by intro _; rfl) : PG X (.Subscript o i pos) (gSub to ti t) := by
  intro pins s σ H v u Q I r h
  rw [ha]
  refine wpAny_bind (wpAny_holding (thn (ho pins s σ H _ I h) fun ov s1 ⟨x, H1, I1, r1, q1⟩ => ?_))
  refine wpAny_bind (wpAny_holding (thn (hi pins s1 σ H1 _ I1 q1) fun iv s2 ⟨y, H2, I2, r2, q2⟩ => ?_))
  refine wpAny_bind (wpAny_standAt (wpAny_bind (wpAny_holding (thn (hs pins s2 σ H2 x y v ov iv u _ I2 r1 r2 r q2) fun _ s3 ⟨H3, I3, q3⟩ => ?_))))
  exact wpAny_release ⟨σ, H3, I3, q3⟩
/-- target = value -/
def tAsg (te : TE) (g : TG) : TS := fun D σ H => te σ H fun x H1 => g x σ H1 D.nx
theorem ps_asg {tg e : Expr} {te : TE} {g : TG} (he : PE X e te) (hg : PG X tg g) (hs : swapsWithSole [tg] e pos.line X.env = pure false := by rfl) (hw : swappedStores [tg] e X.env = pure none := by rfl)
    (h1 : (assignEach [tg] X.env).map (·.2) = [assign tg X.env] := by rfl) : PS X (.Assign [tg] e pos) (tAsg te g) := by
  intro pins s σ H D I h
  refine wpAny_Assign_stores (thn (he pins s σ H _ I h) fun v s1 ⟨x, H1, I1, r1, q1⟩ => ?_) hs hw
  rw [h1]
  exact thn (hg pins s1 σ H1 x v _ I1 r1 q1) fun _ s2 q => q
/-- name = value -/
theorem ps_set {i : Nat} {x : Str} {e : Expr} {te : TE} {pos' : Pos} (hN : X.N.Nodup) (hi : X.N[i]? = some x) (hx : Loc X.env.scope x) (he : PE X e te) (hs : swapsWith e (some (.Name x pos')) pos.line X.env = pure false := by rfl) (hf : X.fn x = true ∨ X.env.scope.names.lookup x = some .local := by first | exact .inl rfl | exact .inr rfl | assumption) :
    PS X (.Assign [.Name x pos'] e pos) (tAsg te (gName i)) := by
  intro pins s σ H D I h
  refine wpAny_Assign_Name (thn (he pins s σ H _ I h) fun v s1 ⟨y, H1, I1, r1, q1⟩ => ?_) hs
  exact store_ok I1 hN hi hx r1 (fun s2 I2 => ⟨_, H1, I2, q1⟩) hf
/-- name op= e -/
def tAug (i : Nat) (te : TE) (ti : TIp) : TS := fun D σ H => ∃ x, σ[i]? = some (some x) ∧ te σ H fun y H1 => ti x y H1 fun z H2 => D.nx (σ.set i (some z)) H2
theorem ps_aug {i : Nat} {x : Str} {e : Expr} {te : TE} {op : Operator} {ti : TIp} {pos' : Pos} (hN : X.N.Nodup) (hi : X.N[i]? = some x) (hx : Loc X.env.scope x) (he : PE X e te) (ho : PIp X op ti) (hf : X.fn x = true ∨ X.env.scope.names.lookup x = some .local := by first | exact .inl rfl | exact .inr rfl | assumption) :
    PS X (.AugAssign (.Name x pos') op e pos) (tAug i te ti) := by
  intro pins s σ H D I h
  obtain ⟨v, e1, h⟩ := h
  obtain ⟨m, hn, hl⟩ := I.loc
  have vis : Vis X.env.scope x := by rcases hx with k | k; exact .inl k; exact .inr (.inl k)
  obtain ⟨u, r, l⟩ := hl i x v hi e1 vis
  refine wpAny_AugAssign_Name ?_
  have go : wpAny (model X.prog X.w) X.A (eval e X.env) (fun w s₂ => wpAny (model X.prog X.w) X.A (inplaceOp op u w) (fun r s₃ => wpAny (model X.prog X.w) X.A (storeName X.env x r) (fun _ => SP X pins D .next) X.xe s₃) X.xe s₂) X.xe s := by
    refine thn (he pins s σ H _ I h) fun w s1 ⟨y, H1, I1, r1, q1⟩ => ?_
    refine thn (ho pins s1 σ H1 v y u w _ I1 r r1 q1) fun z s2 ⟨zv, H2, I2, r2, q2⟩ => ?_
    exact store_ok I2 hN hi hx r2 (fun s3 I3 => ⟨_, H2, I3, q2⟩) hf
  rcases l with ⟨hk, hm⟩ | ⟨hk, c, hc, hcell⟩
  · exact wpAny_loadName_local I.ok.kind hk hn hm go
  · rcases hk with hk | hk
    · exact wpAny_loadName_cell I.ok.kind hk hc hcell go
    · rcases hx with k | k
      · have : X.env.scope.names.lookup x = some .free := hk
        rw [k] at this; cases this
      · have : X.env.scope.names.lookup x = some .free := hk
        rw [k] at this; cases this
/-- ints -/
def ipI (f : Int → Int → Int) : TIp := fun x y H Q => ∃ i j, x = .int i ∧ y = .int j ∧ Q (.int (f i j)) H
theorem ip_add : PIp X .Add (ipI fun i j => i + j) := by
  intro pins s σ H x y v u Q I r1 r2 h
  obtain ⟨i, j, e1, e2, q⟩ := h
  subst e1; subst e2
  obtain ⟨t, rfl⟩ := r1
  obtain ⟨t', rfl⟩ := r2
  exact iadd_int ⟨.int _, H, I.tok _, ⟨_, rfl⟩, q⟩
end

/-! ### while -/
section
variable {X : Cx} {pos : Pos}
end

/-! ### what a loop or a comprehension walks -/
/-- at turn i: it yields x (the heap may grow), or it stops -/
structure It where
  go : Nat → Hp → Prop
  yld : Nat → Hp → V → Hp → Prop
  stop : Nat → Hp → Prop
/-- the iterator's own objects may turn: they are not the frame's, not pinned, younger than the entry (or a comprehension's own) -/
def FpOk (X : Cx) (pins : List (Addr × Obj)) (H : Hp) (b : Addr) : Prop :=
  H b = none ∧ b ≠ X.env.locals ∧ b ∉ X.fs ∧ (b ∈ X.ex ∨ X.s₀.heap.objs.size ≤ b) ∧ (∀ x c, X.env.cells.lookup x = some c → c ≠ b) ∧ ∀ p ∈ X.pn ++ pins, p.1 ≠ b
theorem Inv.fpOk {X : Cx} {pins : List (Addr × Obj)} {σ : St} {H H' : Hp} {s : Shared} {b : Addr} (I : Inv X pins σ H s) (hb : s.heap.objs.size ≤ b) (hn : H' b = none) : FpOk X pins H' b := by
  refine ⟨hn, Nat.ne_of_gt (Nat.lt_of_lt_of_le I.lt hb), I.nofs hb, .inr (Nat.le_trans I.sz hb), fun x c e z => ?_, fun p hp z => ?_⟩
  · obtain ⟨v, q⟩ := I.cell x c e
    exact absurd (Nat.lt_of_lt_of_le q.lt (by rw [z]; exact hb)) (Nat.lt_irrefl _)
  · exact absurd (Nat.lt_of_lt_of_le (Heap.lt_size (I.pin p hp).1) (by rw [z]; exact hb)) (Nat.lt_irrefl _)
structure Turn (P : Program) (w : World) (K : PySem.W.Frag) (tg : Expr) (J : It) (fp : List Addr) (it : Addr) (tn : Nat → Heap → Prop) : Prop where
  mem : it ∈ fp
  obj : ∀ i h, tn i h → ∀ b ∈ fp, ∃ o, h.get? b = some o ∧ ∀ v, o.data ≠ .cell v
  keep : ∀ i h h', tn i h → (∀ b ∈ fp, ∀ o, h.get? b = some o → h'.get? b = some o) → tn i h'
  item : ∀ (X : Cx), X.prog = P → X.w = w → X.K = K → X.calm = true → ∀ (i : Nat) (pins : List (Addr × Obj)) (s : Shared) (σ : St) (H : Hp) (E : Value → Shared → Prop), Inv X pins σ H s → (∀ b ∈ fp, FpOk X pins H b) → tn i s.heap → J.go i H →
    wpAny (model P w) X.A (pyNext (.ref it)) (fun r s1 => ∃ u, r = some u ∧
      wpAny (model P w) X.A (letOwnedTupleGo tg (.ref it) u) (fun _ s2 => ∃ x H', Inv X pins σ H' s2 ∧ RelV x u ∧ J.yld i H x H' ∧ tn (i + 1) s2.heap ∧ ∀ b ∈ fp, H' b = none) E s1) E s
  done : ∀ (X : Cx), X.prog = P → X.w = w → X.K = K → X.calm = true → ∀ (i : Nat) (pins : List (Addr × Obj)) (s : Shared) (σ : St) (H : Hp) (E : Value → Shared → Prop), Inv X pins σ H s → (∀ b ∈ fp, FpOk X pins H b) → tn i s.heap → J.stop i H →
    wpAny (model P w) X.A (pyNext (.ref it)) (fun r s1 => r = none ∧ Inv X pins σ H s1) E s
  self : ∀ (A : Around) (i : Nat) (s : Shared) (Q : Value → Shared → Prop) (E : Value → Shared → Prop), tn i s.heap → Q (.ref it) s → wpAny (model P w) A (pyIter (.ref it)) Q E s
abbrev TI := St → Hp → (It → Hp → Prop) → Prop
/-- an iterator has come -/
def PIE (X : Cx) (pins : List (Addr × Obj)) (σ : St) (tg : Expr) (R : It → Hp → Prop) (itv : Value) (s2 : Shared) : Prop :=
  ∃ (it : Addr) (fp : List Addr) (tn : Nat → Heap → Prop) (J : It) (H' : Hp), itv = .ref it ∧ Inv X pins σ H' s2 ∧ Turn X.prog X.w X.K tg J fp it tn ∧ tn 0 s2.heap ∧ (∀ b ∈ fp, FpOk X pins H' b) ∧ R J H'
def PI (X : Cx) (tg iter : Expr) (wi : TI) : Prop :=
  ∀ (pins : List (Addr × Obj)) (s : Shared) (σ : St) (H : Hp) (R : It → Hp → Prop), Inv X pins σ H s → wi σ H R →
    wpAny (model X.prog X.w) X.A (eval iter X.env) (fun v s1 => wpAny (model X.prog X.w) X.A (pyIter v) (PIE X pins σ tg R) X.xe s1) X.xe s

/-- the step ahead of the store is nothing for an iterator that keeps no tuple -/
theorem go_of {M : Model} {A : Around} {E : Value → Shared → Prop} {s : Shared} {tg : Expr} {it : Addr} {u : Value} {o : Obj} {n : String} {vs : Array Value} {Q : Unit → Shared → Prop} (ho : s.heap.get? it = some o) (hc : o.cls = .type n) (hd : o.data = .fields vs)
    (hn : ["enumerate", "zip", "dict_itemiterator", "dict_reverseitemiterator", "odict_iterator", "itertools.zip_longest", "itertools.pairwise"].contains n = false) (hQ : Q () s) : wpAny M A (letOwnedTupleGo tg (.ref it) u) Q E s := by
  unfold letOwnedTupleGo
  cases tg <;> first
    | exact wpAny_pure hQ
    | (cases u <;> first
        | exact wpAny_pure hQ
        | (refine wpAny_bind (wpAny_load ho ?_)
           rw [hc, hd]
           show wpAny M A (if (["enumerate", "zip", "dict_itemiterator", "dict_reverseitemiterator", "odict_iterator", "itertools.zip_longest", "itertools.pairwise"].contains n && vs[0]? == some (rawInt _)) = true then _ else _) Q E s
           rw [if_neg (by intro h; rw [hn, Bool.false_and] at h; cases h)]
           exact wpAny_pure hQ))

/-- the list at a, as it stands at each turn (a loop may append to it) -/
def Itl (K : PySem.W.Frag) (a : Addr) : It :=
  ⟨fun i H => ∃ xs x, SqL K H a xs ∧ xs[i]? = some x, fun i H x H' => H' = H ∧ ∀ xs, SqL K H a xs → xs[i]? = some x, fun i H => ∃ xs, SqL K H a xs ∧ xs.length ≤ i⟩
/-- lo, lo + 1, .. (n of them) -/
def Itr (lo : Int) (n : Nat) : It := ⟨fun i _ => i < n, fun i H x H' => H' = H ∧ x = .int (lo + i), fun i _ => n ≤ i⟩
theorem turn_list {P : Program} {w : World} {K : PySem.W.Frag} {tg : Expr} (a it : Addr) : Turn P w K tg (Itl K a) [it] it (fun i h => h.IsListIter it a i) where
  mem := by simp
  obj := fun i h st b hb => by
    have e : b = it := by simpa using hb
    subst e
    obtain ⟨o, e, c, d⟩ := st
    exact ⟨o, e, fun v z => by rw [d] at z; cases z⟩
  keep := fun i h h' st k => st.at fun o e => k it (by simp) o e
  item := by
    intro X hP hw hK hc i pins s σ H E I hf st hg
    subst hP hw hK
    obtain ⟨xs, x, hq, hx⟩ := hg
    obtain ⟨its, rv, p, hz⟩ := I.list hq
    obtain ⟨u, hu, ru⟩ := rv.get hx
    obtain ⟨f0, f1, f2, f3, f4, f5⟩ := hf it (by simp)
    refine wpAny_pyNext_list_item st p.isList (x := u) (by simpa using hu) fun h' st' sb => ?_
    have I1 : Inv X pins σ H { s with heap := h' } := I.turned (t' := s.toks) (fun b o hb e => (sb.2 b hb).trans e) f0 f1 f3 f4 f5
    obtain ⟨o, e, c, d⟩ := id st'
    exact ⟨u, rfl, go_of (s := { s with heap := h' }) e c d (by decide) ⟨x, H, I1, ru, ⟨rfl, fun ys hy => by rw [I.list_inj hy hq]; exact hx⟩, st', fun b hb => (hf b hb).1⟩⟩
  done := by
    intro X hP hw hK hc i pins s σ H E I hf st hg
    subst hP hw hK
    obtain ⟨xs, hq, hx⟩ := hg
    obtain ⟨its, rv, p, hz⟩ := I.list hq
    obtain ⟨f0, f1, f2, f3, f4, f5⟩ := hf it (by simp)
    have hl := rv.length
    exact wpAny_pyNext_list_end (I.ok.hd hc) st p.isList (by simp; omega) fun h' eb => ⟨rfl, I.turned (t' := s.toks) (fun b o hb e => eb b o hb e) f0 f1 f3 f4 f5⟩
  self := fun _ _ _ _ _ st h => wpAny_pyIter_listiter st h
theorem turn_range {P : Program} {w : World} {K : PySem.W.Frag} {tg : Expr} (it : Addr) (lo : Int) (n : Nat) : Turn P w K tg (Itr lo n) [it] it (fun i h => IsRangeIter h it (lo + (i : Nat) * 1) ((n : Int) - (i : Nat)) 1) where
  mem := by simp
  obj := fun i h st b hb => by
    have e : b = it := by simpa using hb
    subst e
    exact ⟨_, st, fun v z => by
      have z' : Data.fields _ = Data.cell v := z
      cases z'⟩
  keep := fun i h h' st k => k it (by simp) _ st
  item := by
    intro X hP hw hK hc i pins s σ H E I hf st hg
    subst hP hw hK
    obtain ⟨f0, f1, f2, f3, f4, f5⟩ := hf it (by simp)
    have W := Walks.range (prog := X.prog) (w := X.w) (I.ok.hd hc) it lo 1 n
    refine W.item i s _ _ hg st fun v h' tk hv st' kk => ?_
    obtain ⟨t, rfl⟩ := hv
    have I1 : Inv X pins σ H { s with heap := h', toks := tk } := I.turned (fun b o hb e => kk b o (by simpa using hb) e) f0 f1 f3 f4 f5
    refine ⟨_, rfl, go_of (s := { s with heap := h', toks := tk }) (n := "range_iterator") st' rfl rfl (by decide) ⟨.int (lo + i), H, I1, ⟨t, ?_⟩, ⟨rfl, rfl⟩, st', fun b hb => (hf b hb).1⟩⟩
    rw [Int.mul_one]
  done := by
    intro X hP hw hK hc i pins s σ H E I hf st hg
    subst hP hw hK
    obtain ⟨f0, f1, f2, f3, f4, f5⟩ := hf it (by simp)
    exact wpAny_pyNext_range_end (I.ok.hd hc) st (by have : n ≤ i := hg; omega) fun h' eb => ⟨rfl, I.turned (t' := s.toks) (fun b o hb e => eb b o hb e) f0 f1 f3 f4 f5⟩
  self := fun _ _ _ _ _ st h => wpAny_pyIter_rangeiter st h
end L2

namespace L2
open PySem PySem.Spec PyProof.Rows
section
variable {X : Cx} {tg : Expr}
/-- a range object just made, walked -/
theorem range_it {pins : List (Addr × Obj)} {σ : St} {H : Hp} {s : Shared} {R : It → Hp → Prop} {E : Value → Shared → Prop} {lo hi : Int} {t u v : Tok} {tk : Nat} (I : Inv X pins σ H s) (h1 : -(2 ^ 62) ≤ lo) (h2 : lo < 2 ^ 62) (h3 : -(2 ^ 62) ≤ hi) (h4 : hi < 2 ^ 62)
    (q : R (Itr lo (hi - lo).toNat) H) : wpAny (model X.prog X.w) X.A (pyIter (.ref s.heap.objs.size)) (PIE X pins σ tg R) E { s with heap := s.heap.push { cls := .type "range", data := .fields #[.int lo t, .int hi u, .int 1 v] }, toks := tk } := by
  refine wpAny_pyIter_range (IsRange.new ..) (small_one h1 h2 h3 h4) ?_
  have I1 : Inv X pins σ H { s with heap := s.heap.push { cls := .type "range", data := .fields #[.int lo t, .int hi u, .int 1 v] }, toks := tk } := I.kept fun b o e => Heap.get?_push_of_some _ e
  refine ⟨(s.heap.push { cls := .type "range", data := .fields #[.int lo t, .int hi u, .int 1 v] }).objs.size, [(s.heap.push { cls := .type "range", data := .fields #[.int lo t, .int hi u, .int 1 v] }).objs.size], _, _, H, rfl,
    I1.kept (t' := tk) fun b o e => Heap.get?_push_of_some _ e, turn_range _ lo (hi - lo).toNat, ?_, fun b hb => ?_, q⟩
  · have e1 : lo + ((0 : Nat) : Int) * 1 = lo := by simp
    have e2 : (((hi - lo).toNat : Nat) : Int) - ((0 : Nat) : Int) = Builtin.Range.rangeSize lo hi 1 := by rw [rangeSize_one]; split <;> omega
    show IsRangeIter _ _ (lo + ((0 : Nat) : Int) * 1) ((((hi - lo).toNat : Nat) : Int) - ((0 : Nat) : Int)) 1
    rw [e1, e2]
    exact Heap.get?_push_size _ rfl
  · have e : b = (s.heap.push { cls := .type "range", data := .fields #[.int lo t, .int hi u, .int 1 v] }).objs.size := by simpa using hb
    subst e
    exact I1.fpOk (Nat.le_refl _) (I1.hok.fresh (Nat.le_refl _))
def iRng1 (ta : TA) : TI := fun σ H R => ta σ H fun vs H1 => ∃ j : Int, vs = [.int j] ∧ -(2 ^ 62) ≤ j ∧ j < 2 ^ 62 ∧ R (Itr 0 j.toNat) H1
def iRng2 (ta : TA) : TI := fun σ H R => ta σ H fun vs H1 => ∃ i j : Int, vs = [.int i, .int j] ∧ (-(2 ^ 62) ≤ i ∧ i < 2 ^ 62 ∧ -(2 ^ 62) ≤ j ∧ j < 2 ^ 62) ∧ R (Itr i (j - i).toNat) H1
theorem pi_range1 {a : Expr} {ta : TA} {p pos : Pos} (hg : Gl X "range") (hm : X.mg "range" = none) (ha : PA X [a] ta) (hs : starEach [a] X.env = [(false, eval a X.env)] := by rfl) : PI X tg (.Call (.Name "range" p) [a] [] pos) (iRng1 ta) := by
  intro pins s σ H R I h
  refine Call_ (ld_blt I hg hm boot_range (PyProof.Rows.callWith_type1 (thn (ha pos pins s σ H _ I h) fun us s1 ⟨vs, H1, I1, r1, q1⟩ => ?_) hs rfl))
  obtain ⟨j, e, q1, q2, q⟩ := q1
  subst e
  cases r1 with
  | cons r rr =>
    cases rr
    obtain ⟨t, rfl⟩ := r
    exact call_range_1 (range_it I1 (by omega) (by omega) q1 q2 (by simpa using q))
theorem pi_range2 {a b : Expr} {ta : TA} {p pos : Pos} (hg : Gl X "range") (hm : X.mg "range" = none) (ha : PA X [a, b] ta) (hs : starEach [a, b] X.env = [(false, eval a X.env), (false, eval b X.env)] := by rfl) (hs2 : starEach [b] X.env = [(false, eval b X.env)] := by rfl) :
    PI X tg (.Call (.Name "range" p) [a, b] [] pos) (iRng2 ta) := by
  intro pins s σ H R I h
  refine Call_ (ld_blt I hg hm boot_range (PyProof.Rows.callWith_type1 (thn (ha pos pins s σ H _ I h) fun us s1 ⟨vs, H1, I1, r1, q1⟩ => ?_) (by rw [hs, hs2]) (by rw [hs2]; rfl)))
  obtain ⟨i, j, e, ⟨q1, q2, q3, q4⟩, q⟩ := q1
  subst e
  cases r1 with
  | cons r rr =>
    cases rr with
    | cons r' rr =>
      cases rr
      obtain ⟨t, rfl⟩ := r
      obtain ⟨t', rfl⟩ := r'
      exact call_range_2 (range_it I1 q1 q2 q3 q4 q)

/-! ### for -/
/-- W: the invariant by the turn and a measure; N: what the body is to reach -/
def tFor (wi : TI) (g : TG) (tb : TS) : TS := fun D σ H => wi σ H fun J H1 => ∃ W : Nat → Nat → St → Hp → Prop, (∃ m, W 0 m σ H1) ∧ ∀ i m σ H, W i m σ H →
  (J.stop i H ∧ D.nx σ H) ∨ (J.go i H ∧ ∃ N : St → Hp → Prop, (∀ σ' H', N σ' H' → ∃ m', m' < m ∧ W (i + 1) m' σ' H') ∧ ∀ x H', J.yld i H x H' → g x σ H' fun σ2 H2 => tb { D with nx := N, ct := N, bk := D.nx } σ2 H2)
/-- the records at fp as they stand -/
def pinsAt (fp : List Addr) (h : Heap) : List (Addr × Obj) := fp.filterMap fun b => (h.get? b).map fun o => (b, o)
theorem mem_pinsAt {fp : List Addr} {h : Heap} {b : Addr} {o : Obj} (hb : b ∈ fp) (e : h.get? b = some o) : (b, o) ∈ pinsAt fp h := List.mem_filterMap.mpr ⟨b, hb, by rw [e]; rfl⟩
theorem of_pinsAt {fp : List Addr} {h : Heap} {p : Addr × Obj} (hp : p ∈ pinsAt fp h) : p.1 ∈ fp ∧ h.get? p.1 = some p.2 := by
  obtain ⟨b, hb, e⟩ := List.mem_filterMap.mp hp
  cases q : h.get? b with
  | none => rw [q] at e; cases e
  | some o =>
    rw [q] at e
    have e' : (b, o) = p := Option.some.inj e
    subst e'
    exact ⟨hb, q⟩
theorem Inv.pinned {pins : List (Addr × Obj)} {σ : St} {H : Hp} {s : Shared} {fp : List Addr} (I : Inv X pins σ H s) (hf : ∀ b ∈ fp, FpOk X pins H b) (ho : ∀ b ∈ fp, ∃ o, s.heap.get? b = some o ∧ ∀ v, o.data ≠ .cell v) : Inv X (pins ++ pinsAt fp s.heap) σ H s :=
  I.pins_of fun p hp => (List.mem_append.mp hp).elim (fun z => I.pin p (List.mem_append_right _ z)) fun z => by
    obtain ⟨hb, e⟩ := of_pinsAt z
    obtain ⟨f0, f1, f2, _⟩ := hf p.1 hb
    obtain ⟨o, e', d⟩ := ho p.1 hb
    rw [e] at e'; cases e'
    exact ⟨e, f0, f1, f2, d⟩
theorem Inv.unpinned {pins pl : List (Addr × Obj)} {σ : St} {H : Hp} {s : Shared} (I : Inv X (pins ++ pl) σ H s) : Inv X pins σ H s := I.pins_of fun p hp => I.pin p (List.mem_append_right _ (List.mem_append_left _ hp))
theorem ps_for {iter : Expr} {body : List Stmt} {wi : TI} {g : TG} {tb : TS} {pos : Pos} (hp : PassesOwn (model X.prog X.w) X.A X.env X.xe) (hc : X.calm = true) (hi : PI X tg iter wi) (hg : PG X tg g) (hb : PSs X body tb)
    (hs : ∀ x, foldedSetIterable iter X.env x = pure x := by intro _; rfl) : PS X (.For tg iter body [] pos) (tFor wi g tb) := by
  intro pins s σ H D I h
  refine wpAny_For (thn (hi pins s σ H _ I h) fun v s1 h1 => thn h1 fun itv s2 h2 => ?_) hs
  obtain ⟨it, fp, tn, J, H2, e, I2, T, st2, f2, W, ⟨m0, w0⟩, turn⟩ := h2
  subst e
  -- what stays true of the iterator's objects through the loop
  have stat : ∀ {H' : Hp}, (∀ b ∈ fp, H' b = none) → ∀ b ∈ fp, FpOk X pins H' b := fun hn b hb => ⟨hn b hb, (f2 b hb).2⟩
  refine codeAny_forLoop_any (fun n s' => ∃ i σ' H', Inv X pins σ' H' s' ∧ tn i s'.heap ∧ (∀ b ∈ fp, H' b = none) ∧ W i n σ' H') ?_ m0 ⟨0, σ, H2, I2, st2, fun b hb => (f2 b hb).1, w0⟩
  rintro n s3 ⟨i, σ3, H3, I3, st3, fr3, w3⟩
  rcases turn i n σ3 H3 w3 with ⟨stop, qn⟩ | ⟨go, N, hN, step⟩
  · refine wpAny_passesOwn hp (thn (T.done X rfl rfl rfl hc i pins s3 σ3 H3 X.xe I3 (stat fr3) st3 stop) fun r s4 ⟨hr, I4⟩ => ?_)
    subst hr
    exact wpAny_execs_nil ⟨σ3, H3, I4, qn⟩
  · refine wpAny_passesOwn hp (thn (T.item X rfl rfl rfl hc i pins s3 σ3 H3 X.xe I3 (stat fr3) st3 go) fun r s4 ⟨u, hr, h4⟩ => ?_)
    subst hr
    refine wpAny_passesOwn hp (thn h4 fun _ s5 ⟨x, H5, I5, r5, y5, st5, fr5⟩ => ?_)
    have I5' := I5.pinned (stat fr5) (T.obj _ _ st5)
    refine wpAny_passesOwn hp (thn (hg _ s5 σ3 H5 x u _ I5' r5 (step x H5 y5)) fun _ s6 ⟨σ6, H6, I6, q6⟩ => ?_)
    refine wpAny_passesOwn hp (thn (hb _ s6 σ6 H6 _ I6 q6) fun f s7 q7 => ?_)
    have again : ∀ {σ7 : St} {H7 : Hp}, Inv X (pins ++ pinsAt fp s5.heap) σ7 H7 s7 → N σ7 H7 → ∃ m, m < n ∧ ∃ i σ' H', Inv X pins σ' H' s7 ∧ tn i s7.heap ∧ (∀ b ∈ fp, H' b = none) ∧ W i m σ' H' := fun {σ7 H7} I7 n7 => by
      obtain ⟨m', hm, w7⟩ := hN σ7 H7 n7
      refine ⟨m', hm, i + 1, σ7, H7, I7.unpinned, T.keep _ _ _ st5 fun b hb o e => (I7.pin (b, o) (List.mem_append_right _ (List.mem_append_right _ (mem_pinsAt hb e)))).1, fun b hb => ?_, w7⟩
      obtain ⟨o, e, d⟩ := T.obj _ _ st5 b hb
      exact (I7.pin (b, o) (List.mem_append_right _ (List.mem_append_right _ (mem_pinsAt hb e)))).2.1
    cases f with
    | next => obtain ⟨σ7, H7, I7, n7⟩ := q7; exact again I7 n7
    | cont => obtain ⟨σ7, H7, I7, n7⟩ := q7; exact again I7 n7
    | brk => obtain ⟨σ7, H7, I7, q7⟩ := q7; exact ⟨σ7, H7, I7.unpinned, q7⟩
    | ret v => obtain ⟨x7, σ7, H7, I7, r7, q7⟩ := q7; exact ⟨x7, σ7, H7, I7.unpinned, r7, q7⟩
end

/-! ### the forms one uses -/
/-- over a list that the body leaves as it is -/
theorem for_list {K : PySem.W.Frag} {a : Addr} {xs : List V} {g : TG} {tb : TS} {D : Ends} {σ : St} {H : Hp} (Pv : Nat → St → Hp → Prop) (h0 : Pv 0 σ H) (hl : ∀ i σ H, i ≤ xs.length → Pv i σ H → SqL K H a xs)
    (hs : ∀ i x σ H, xs[i]? = some x → Pv i σ H → g x σ H fun σ2 H2 => tb { D with nx := Pv (i + 1), ct := Pv (i + 1), bk := D.nx } σ2 H2) (hd : ∀ σ H, Pv xs.length σ H → D.nx σ H) :
    ∃ W : Nat → Nat → St → Hp → Prop, (∃ m, W 0 m σ H) ∧ ∀ i m σ H, W i m σ H →
      ((Itl K a).stop i H ∧ D.nx σ H) ∨ ((Itl K a).go i H ∧ ∃ N : St → Hp → Prop, (∀ σ' H', N σ' H' → ∃ m', m' < m ∧ W (i + 1) m' σ' H') ∧ ∀ x H', (Itl K a).yld i H x H' → g x σ H' fun σ2 H2 => tb { D with nx := N, ct := N, bk := D.nx } σ2 H2) := by
  refine ⟨fun i m σ H => m = xs.length - i ∧ i ≤ xs.length ∧ Pv i σ H, ⟨xs.length, by simp, Nat.zero_le _, h0⟩, ?_⟩
  rintro i m σ H ⟨rfl, hi, p⟩
  have q := hl i σ H hi p
  by_cases hlt : i < xs.length
  · refine .inr ⟨⟨xs, xs[i], q, by simp [hlt]⟩, Pv (i + 1), fun σ' H' p' => ⟨xs.length - (i + 1), by omega, rfl, hlt, p'⟩, fun x H' y => ?_⟩
    obtain ⟨e, y⟩ := y
    subst e
    exact hs i x σ _ (y xs q) p
  · have e : i = xs.length := by omega
    subst e
    exact .inl ⟨⟨xs, q, Nat.le_refl _⟩, hd σ H p⟩
theorem for_range {lo : Int} {n : Nat} {g : TG} {tb : TS} {D : Ends} {σ : St} {H : Hp} (Pv : Nat → St → Hp → Prop) (h0 : Pv 0 σ H)
    (hs : ∀ i σ H, i < n → Pv i σ H → g (.int (lo + i)) σ H fun σ2 H2 => tb { D with nx := Pv (i + 1), ct := Pv (i + 1), bk := D.nx } σ2 H2) (hd : ∀ σ H, Pv n σ H → D.nx σ H) :
    ∃ W : Nat → Nat → St → Hp → Prop, (∃ m, W 0 m σ H) ∧ ∀ i m σ H, W i m σ H →
      ((Itr lo n).stop i H ∧ D.nx σ H) ∨ ((Itr lo n).go i H ∧ ∃ N : St → Hp → Prop, (∀ σ' H', N σ' H' → ∃ m', m' < m ∧ W (i + 1) m' σ' H') ∧ ∀ x H', (Itr lo n).yld i H x H' → g x σ H' fun σ2 H2 => tb { D with nx := N, ct := N, bk := D.nx } σ2 H2) := by
  refine ⟨fun i m σ H => m = n - i ∧ i ≤ n ∧ Pv i σ H, ⟨n, by simp, Nat.zero_le _, h0⟩, ?_⟩
  rintro i m σ H ⟨rfl, hi, p⟩
  by_cases hlt : i < n
  · refine .inr ⟨hlt, Pv (i + 1), fun σ' H' p' => ⟨n - (i + 1), by omega, rfl, hlt, p'⟩, fun x H' y => ?_⟩
    obtain ⟨e, y⟩ := y
    subst e y
    exact hs i σ _ hlt p
  · have e : i = n := by omega
    subst e
    exact .inl ⟨Nat.le_refl _, hd σ H p⟩
end L2

namespace L2
open PySem PySem.Spec PyProof.Rows

abbrev R2 := V → V → Hp → VK → Prop
/-- a two-place operation on values: f is binaryOp op, inplaceOp op or compareOp op -/
def OpR (X : Cx) (f : Value → Value → Sem Value) (r : R2) : Prop :=
  ∀ (pins : List (Addr × Obj)) (s : Shared) (σ : St) (H : Hp) (x y : V) (v u : Value) (Q : VK), Inv X pins σ H s → RelV x v → RelV y u → r x y H Q →
    wpAny (model X.prog X.w) X.A (f v u) (EP X pins σ Q) X.xe s
/-- a one-place operation -/
def UnR (X : Cx) (f : Value → Sem Value) (r : V → Hp → VK → Prop) : Prop :=
  ∀ (pins : List (Addr × Obj)) (s : Shared) (σ : St) (H : Hp) (x : V) (v : Value) (Q : VK), Inv X pins σ H s → RelV x v → r x H Q →
    wpAny (model X.prog X.w) X.A (f v) (EP X pins σ Q) X.xe s
/-- a call of a value that is known (a builtin, a type) with values -/
def CallR (X : Cx) (f : Value) (r : List V → Hp → VK → Prop) : Prop :=
  ∀ (pins : List (Addr × Obj)) (s : Shared) (σ : St) (H : Hp) (xs : List V) (us : List Value) (Q : VK), Inv X pins σ H s → Vals xs us → r xs H Q →
    wpAny (model X.prog X.w) X.A (call f us) (EP X pins σ Q) X.xe s
/-- a value's truth -/
def TruR (X : Cx) (r : V → Hp → (Bool → Hp → Prop) → Prop) : Prop :=
  ∀ (pins : List (Addr × Obj)) (s : Shared) (σ : St) (H : Hp) (x : V) (v : Value) (Q : Bool → Hp → Prop), Inv X pins σ H s → RelV x v → r x H Q →
    wpAny (model X.prog X.w) X.A (truthy v) (TP X pins σ Q) X.xe s

def tOp (r : R2) (ta tb : TE) : TE := fun σ H Q => ta σ H fun x H1 => tb σ H1 fun y H2 => r x y H2 Q
def tUn (r : V → Hp → VK → Prop) (ta : TE) : TE := fun σ H Q => ta σ H fun x H1 => r x H1 Q
/-- ints in, under C, and a value out -/
def rI (C : Int → Int → Prop) (g : Int → Int → V) : R2 := fun x y H Q => ∃ i j, x = .int i ∧ y = .int j ∧ C i j ∧ Q (g i j) H
def rI0 (g : Int → Int → V) : R2 := fun x y H Q => ∃ i j, x = .int i ∧ y = .int j ∧ Q (g i j) H
def rU (g : Int → V) : V → Hp → VK → Prop := fun x H Q => ∃ i, x = .int i ∧ Q (g i) H

section
variable {X : Cx} {a b c : Expr} {ta tb tc : TE} {pos : Pos}

theorem binT (ha : PE X a ta) (hb : PE X b tb) {pins : List (Addr × Obj)} {s : Shared} {σ : St} {H : Hp} {R : V → V → Hp → Prop} (I : Inv X pins σ H s)
    (h : ta σ H fun x H1 => tb σ H1 fun y H2 => R x y H2) {Q : Value → Shared → Prop} {f : Value → Value → Sem Value}
    (hf : ∀ v u s2 x y H2, Inv X pins σ H2 s2 → RelV x v → RelV y u → R x y H2 → wpAny (model X.prog X.w) X.A (f v u) Q X.xe s2) :
    wpAny (model X.prog X.w) X.A (eval a X.env) (fun v s₁ => wpAny (model X.prog X.w) X.A (eval b X.env) (fun u s₂ => wpAny (model X.prog X.w) X.A (f v u) Q X.xe s₂) X.xe s₁) X.xe s := by
  refine thn (ha pins s σ H _ I h) fun v s1 ⟨x, H1, I1, r1, q1⟩ => ?_
  refine thn (hb pins s1 σ H1 _ I1 q1) fun u s2 ⟨y, H2, I2, r2, q2⟩ => ?_
  exact hf v u s2 x y H2 I2 r1 r2 q2

theorem pe_op {op : Operator} {r : R2} (ho : OpR X (binaryOp op) r) (ha : PE X a ta) (hb : PE X b tb) : PE X (.BinOp a op b pos) (tOp r ta tb) := by
  intro pins s σ H Q I h
  exact wpAny_BinOp (binT ha hb I h fun v u s2 x y H2 I2 rx ry q => ho pins s2 σ H2 x y v u Q I2 rx ry q)
theorem pe_un {op : UnaryOp} {r : V → Hp → VK → Prop} (ho : UnR X (unaryOp op) r) (ha : PE X a ta) : PE X (.UnaryOp op a pos) (tUn r ta) := by
  intro pins s σ H Q I h
  exact UnaryOp_ (thn (ha pins s σ H _ I h) fun v s1 ⟨x, H1, I1, r1, q1⟩ => ho pins s1 σ H1 x v Q I1 r1 q1)
/-! ### ints -/
theorem opI {f : Value → Value → Sem Value} {C : Int → Int → Prop} {g : Int → Int → Int}
    (rule : ∀ (i j : Int) (t u : Tok) (s : Shared) (Q : Value → Shared → Prop) (E : Value → Shared → Prop), C i j → Q (.int (g i j) s.toks) { s with toks := s.toks + 1 } → wpAny (model X.prog X.w) X.A (f (.int i t) (.int j u)) Q E s) :
    OpR X f (rI C fun i j => .int (g i j)) := by
  intro pins s σ H x y v u Q I rx ry h
  obtain ⟨i, j, rfl, rfl, hc, q⟩ := h
  obtain ⟨t, rfl⟩ := rx
  obtain ⟨t', rfl⟩ := ry
  exact rule i j t t' s _ _ hc ⟨.int (g i j), H, I.tok _, ⟨_, rfl⟩, q⟩
theorem opI0 {f : Value → Value → Sem Value} {g : Int → Int → Int}
    (rule : ∀ (i j : Int) (t u : Tok) (s : Shared) (Q : Value → Shared → Prop) (E : Value → Shared → Prop), Q (.int (g i j) s.toks) { s with toks := s.toks + 1 } → wpAny (model X.prog X.w) X.A (f (.int i t) (.int j u)) Q E s) :
    OpR X f (rI0 fun i j => .int (g i j)) := by
  intro pins s σ H x y v u Q I rx ry h
  obtain ⟨i, j, rfl, rfl, q⟩ := h
  obtain ⟨t, rfl⟩ := rx
  obtain ⟨t', rfl⟩ := ry
  exact rule i j t t' s _ _ ⟨.int (g i j), H, I.tok _, ⟨_, rfl⟩, q⟩
theorem opB0 {f : Value → Value → Sem Value} {g : Int → Int → Bool}
    (rule : ∀ (i j : Int) (t u : Tok) (s : Shared) (Q : Value → Shared → Prop) (E : Value → Shared → Prop), Q (.bool (g i j)) s → wpAny (model X.prog X.w) X.A (f (.int i t) (.int j u)) Q E s) :
    OpR X f (rI0 fun i j => .bl (g i j)) := by
  intro pins s σ H x y v u Q I rx ry h
  obtain ⟨i, j, rfl, rfl, q⟩ := h
  obtain ⟨t, rfl⟩ := rx
  obtain ⟨t', rfl⟩ := ry
  exact rule i j t t' s _ _ ⟨.bl (g i j), H, I, rfl, q⟩

def CPow (i j : Int) : Prop := 0 ≤ j ∧ j ≤ 1000000 ∧ i.natAbs < 2 ^ 64
def CMul (i j : Int) : Prop := (-(2 ^ 64) < i ∧ i < 2 ^ 64) ∨ (-(2 ^ 64) < j ∧ j < 2 ^ 64)
theorem CMul.ok {i j : Int} (h : CMul i j) : IntMulOk i j := by
  rcases h with ⟨h1, h2⟩ | ⟨h1, h2⟩
  · exact .of_left (intBits_le_64 h1 h2)
  · exact .of_right (intBits_le_64 h1 h2)
theorem op_add : OpR X (binaryOp .Add) (rI0 fun i j => .int (i + j)) := opI0 fun _ _ _ _ _ _ _ q => add_int q
theorem op_sub : OpR X (binaryOp .Sub) (rI0 fun i j => .int (i - j)) := opI0 fun _ _ _ _ _ _ _ q => sub_int q
theorem op_mul : OpR X (binaryOp .Mult) (rI CMul fun i j => .int (i * j)) := opI fun _ _ _ _ _ _ _ hc q => mul_int q hc.ok
/-- % by a positive divisor of any size -/
theorem op_mod : OpR X (binaryOp .Mod) (rI (fun _ j => 0 < j) fun i j => .int (i % j)) := opI fun i j _ _ _ _ _ hc q => by
  have h1 : (0 : Int) < j := hc
  exact mod_int' (by omega) (by rw [Int.fmod_eq_emod_of_nonneg i (by omega)]; exact q)
theorem op_pow : OpR X (binaryOp .Pow) (rI CPow fun i j => .int (i ^ j.toNat)) := opI fun _ _ _ _ _ _ _ hc q => pow_int_small hc.1 hc.2.1 hc.2.2 q
theorem unI {f : Value → Sem Value} {g : Int → Int}
    (rule : ∀ (i : Int) (t : Tok) (s : Shared) (Q : Value → Shared → Prop) (E : Value → Shared → Prop), Q (.int (g i) s.toks) { s with toks := s.toks + 1 } → wpAny (model X.prog X.w) X.A (f (.int i t)) Q E s) :
    UnR X f (rU fun i => .int (g i)) := by
  intro pins s σ H x v Q I rx h
  obtain ⟨i, rfl, q⟩ := h
  obtain ⟨t, rfl⟩ := rx
  exact rule i t s _ _ ⟨.int (g i), H, I.tok _, ⟨_, rfl⟩, q⟩
theorem un_neg : UnR X (unaryOp .USub) (rU fun i => .int (-i)) := unI fun _ _ _ _ _ q => neg_int q
/-! ### bools among ints: n += (a < b) -/
end

/-! ### comparisons -/
/-- the scalars that == tells apart as data does -/
def scal : V → V → Bool
  | .non, .non => true | .non, .int _ => true | .int _, .non => true | .non, .bl _ => true | .bl _, .non => true | .non, .str _ => true | .str _, .non => true
  | .int _, .int _ => true | .bl _, .bl _ => true | .str _, .str _ => true | .byt _, .byt _ => true
  | .int _, .str _ => true | .str _, .int _ => true | .bl _, .str _ => true | .str _, .bl _ => true
  | _, _ => false
def rEq : R2 := fun x y H Q => scal x y = true ∧ Q (.bl (decide (x = y))) H
def rNe : R2 := fun x y H Q => scal x y = true ∧ Q (.bl (!decide (x = y))) H

theorem dec_int {i j : Int} : decide (V.int i = V.int j) = (i == j) := by
  rw [Bool.eq_iff_iff]
  simp
theorem dec_bl {i j : Bool} : decide (V.bl i = V.bl j) = (i == j) := by
  rw [Bool.eq_iff_iff]
  simp
theorem dec_str {i j : Str} : decide (V.str i = V.str j) = (i == j) := by
  rw [Bool.eq_iff_iff]
  simp
theorem dec_byt {i j : Array UInt8} : decide (V.byt i = V.byt j) = (i.toList == j.toList) := by
  rw [Bool.eq_iff_iff]
  cases i
  cases j
  simp

section
variable {X : Cx} {a b c : Expr} {ta tb tc : TE} {pos : Pos}
theorem fin_bl {pins : List (Addr × Obj)} {σ : St} {H : Hp} {s : Shared} {Q : VK} {k k' : Bool} (I : Inv X pins σ H s) (q : Q (.bl k) H) (e : k = k') : EP X pins σ Q (.bool k') s := by
  subst e
  exact ⟨.bl k, H, I, rfl, q⟩
theorem op_eq : OpR X (compareOp .Eq) rEq := by
  intro pins s σ H x y v u Q I rx ry h
  obtain ⟨hs, q⟩ := h
  cases x with
  | non =>
    cases rx
    cases y with
    | non => cases ry; exact PySem.EqNone.eq_none_none (fin_bl I q (by simp))
    | bl j => cases ry; exact PySem.EqNone.eq_none_bool (fin_bl I q (by simp))
    | int j => obtain ⟨t', rfl⟩ := ry; exact PySem.EqNone.eq_none_int (fin_bl I q (by simp))
    | str j => obtain ⟨t', rfl⟩ := ry; exact PySem.EqNone.eq_none_str (fin_bl I q (by simp))
    | _ => exact absurd (show false = true from hs) Bool.false_ne_true
  | bl i =>
    cases rx
    cases y with
    | non => cases ry; exact PySem.EqNone.eq_bool_none (fin_bl I q (by simp))
    | bl j => cases ry; exact eq_bool (fin_bl I q dec_bl)
    | str j => obtain ⟨t', rfl⟩ := ry; exact PySem.EqMixed.eq_bool_str (fin_bl I q (by simp))
    | _ => exact absurd (show false = true from hs) Bool.false_ne_true
  | int i =>
    obtain ⟨t, rfl⟩ := rx
    cases y with
    | non => cases ry; exact PySem.EqNone.eq_int_none (fin_bl I q (by simp))
    | int j => obtain ⟨t', rfl⟩ := ry; exact eq_int (fin_bl I q dec_int)
    | str j => obtain ⟨t', rfl⟩ := ry; exact PySem.EqMixed.eq_int_str (fin_bl I q (by simp))
    | _ => exact absurd (show false = true from hs) Bool.false_ne_true
  | str i =>
    obtain ⟨t, rfl⟩ := rx
    cases y with
    | non => cases ry; exact PySem.EqNone.eq_str_none (fin_bl I q (by simp))
    | bl j => cases ry; exact PySem.EqMixed.eq_str_bool (fin_bl I q (by simp))
    | int j => obtain ⟨t', rfl⟩ := ry; exact PySem.EqMixed.eq_str_int (fin_bl I q (by simp))
    | str j => obtain ⟨t', rfl⟩ := ry; exact eq_str (fin_bl I q dec_str)
    | _ => exact absurd (show false = true from hs) Bool.false_ne_true
  | byt i =>
    obtain ⟨t, rfl⟩ := rx
    cases y with
    | byt j => obtain ⟨t', rfl⟩ := ry; exact PySem.W.eq_bytes (fin_bl I q dec_byt)
    | _ => exact absurd (show false = true from hs) Bool.false_ne_true
  | _ => cases y <;> exact absurd (show false = true from hs) Bool.false_ne_true
theorem op_ne : OpR X (compareOp .NotEq) rNe := by
  intro pins s σ H x y v u Q I rx ry h
  obtain ⟨hs, q⟩ := h
  cases x with
  | non =>
    cases rx
    cases y with
    | non => cases ry; exact PySem.EqNone.ne_none_none (fin_bl I q (by simp))
    | bl j => cases ry; exact PySem.EqNone.ne_none_bool (fin_bl I q (by simp))
    | int j => obtain ⟨t', rfl⟩ := ry; exact PySem.EqNone.ne_none_int (fin_bl I q (by simp))
    | str j => obtain ⟨t', rfl⟩ := ry; exact PySem.EqNone.ne_none_str (fin_bl I q (by simp))
    | _ => exact absurd (show false = true from hs) Bool.false_ne_true
  | bl i =>
    cases rx
    cases y with
    | non => cases ry; exact PySem.EqNone.ne_bool_none (fin_bl I q (by simp))
    | bl j => cases ry; exact ne_bool (fin_bl I q (congrArg not dec_bl))
    | str j => obtain ⟨t', rfl⟩ := ry; exact PySem.EqMixed.ne_bool_str (fin_bl I q (by simp))
    | _ => exact absurd (show false = true from hs) Bool.false_ne_true
  | int i =>
    obtain ⟨t, rfl⟩ := rx
    cases y with
    | non => cases ry; exact PySem.EqNone.ne_int_none (fin_bl I q (by simp))
    | int j => obtain ⟨t', rfl⟩ := ry; exact ne_int (fin_bl I q (congrArg not dec_int))
    | str j => obtain ⟨t', rfl⟩ := ry; exact PySem.EqMixed.ne_int_str (fin_bl I q (by simp))
    | _ => exact absurd (show false = true from hs) Bool.false_ne_true
  | str i =>
    obtain ⟨t, rfl⟩ := rx
    cases y with
    | non => cases ry; exact PySem.EqNone.ne_str_none (fin_bl I q (by simp))
    | bl j => cases ry; exact PySem.EqMixed.ne_str_bool (fin_bl I q (by simp))
    | int j => obtain ⟨t', rfl⟩ := ry; exact PySem.EqMixed.ne_str_int (fin_bl I q (by simp))
    | str j => obtain ⟨t', rfl⟩ := ry; exact ne_str (fin_bl I q (congrArg not dec_str))
    | _ => exact absurd (show false = true from hs) Bool.false_ne_true
  | byt i =>
    obtain ⟨t, rfl⟩ := rx
    cases y with
    | byt j => obtain ⟨t', rfl⟩ := ry; exact PySem.W.ne_bytes (fin_bl I q (congrArg not dec_byt))
    | _ => exact absurd (show false = true from hs) Bool.false_ne_true
  | _ => cases y <;> exact absurd (show false = true from hs) Bool.false_ne_true

theorem op_gt : OpR X (compareOp .Gt) (rI0 fun i j => .bl (decide (j < i))) := opB0 fun _ _ _ _ _ _ _ q => gt_int q
theorem op_ge : OpR X (compareOp .GtE) (rI0 fun i j => .bl (decide (j ≤ i))) := opB0 fun _ _ _ _ _ _ _ q => ge_int q
theorem nomark (b : Expr) {op : CmpOp} (h : op ≠ .In := by decide) (h2 : op ≠ .NotIn := by decide) : behindInMarks op b = false := by
  have e1 : (op == CmpOp.In) = false := by cases op <;> first | rfl | exact absurd rfl h
  have e2 : (op == CmpOp.NotIn) = false := by cases op <;> first | rfl | exact absurd rfl h2
  cases b <;> simp [behindInMarks, e1, e2]
/-- a comparison as a value; hm: nomark b, or (for in, not in) by with_unfolding_all rfl -/
theorem pe_cmpR {op : CmpOp} {r : R2} (ho : OpR X (compareOp op) r) (ha : PE X a ta) (hb : PE X b tb) (hm : behindInMarks op b = false) : PE X (.Compare a [op] [b] pos) (tOp r ta tb) := by
  intro pins s σ H Q I h
  exact wpAny_Compare1 (binT ha hb I h fun v u s2 x y H2 I2 rx ry q => ho pins s2 σ H2 x y v u Q I2 rx ry q) hm
/-! ### truth -/
/-- a value's truth by the abstract heap -/
def TruV (K : PySem.W.Frag) (x : V) (H : Hp) (k : Bool) : Prop :=
  match x with
  | .non => k = false
  | .bl b => k = b
  | .int i => k = (i != 0)
  | .str y => y.length ≤ sizeLine ∧ k = ((y.length : Int) != 0)
  | .byt y => y.size ≤ sizeLine ∧ k = ((y.size : Int) != 0)
  | .ref p => (∃ xs, SqL K H p xs ∧ k = !xs.isEmpty) ∨ (∃ xs, SqT K H p xs ∧ k = !xs.isEmpty) ∨ ∃ kvs, H p = some (.dK kvs) ∧ k = !kvs.isEmpty
  | _ => False
theorem isEmpty_kv {κ : Type} {kvs : List (κ × V)} {vs : List (κ × Value)} (r : KV kvs vs) : (!vs.isEmpty) = !kvs.isEmpty := by
  cases r <;> rfl
theorem isEmpty_of {xs : List V} {its : List Value} (r : Vals xs its) : (!its.toArray.isEmpty) = !xs.isEmpty := by
  cases r <;> simp
theorem line63 : (sizeLine : Nat) < 2 ^ 63 := by rw [sizeLine_eq]; decide
theorem tru_ok : TruR X (fun x H Q => ∃ k, TruV X.K x H k ∧ Q k H) := by
  intro pins s σ H x v Q I rx h
  obtain ⟨k, e, q⟩ := h
  have hl := line63
  have hs : sizeLine = 16777216 := sizeLine_eq
  cases x with
  | non =>
    cases rx
    have e' : k = false := e
    subst e'
    exact truthy_none ⟨H, I, q⟩
  | bl b =>
    cases rx
    have e' : k = b := e
    subst e'
    exact wpAny_truthy_bool ⟨H, I, q⟩
  | int i =>
    obtain ⟨t, rfl⟩ := rx
    have e' : k = (i != 0) := e
    subst e'
    exact PySem.P.truthy_int ⟨H, I, q⟩
  | str y =>
    obtain ⟨t, rfl⟩ := rx
    obtain ⟨hy, e'⟩ : y.length ≤ sizeLine ∧ k = ((y.length : Int) != 0) := e
    subst e'
    exact PySem.P.truthy_str (by omega) ⟨H, I.tok _, q⟩
  | byt y =>
    obtain ⟨t, rfl⟩ := rx
    obtain ⟨hy, e'⟩ : y.size ≤ sizeLine ∧ k = ((y.size : Int) != 0) := e
    subst e'
    exact PySem.W.truthy_bytes (by omega) ⟨H, I.tok _, q⟩
  | ref p =>
    cases rx
    have e' : (∃ xs, SqL X.K H p xs ∧ k = !xs.isEmpty) ∨ (∃ xs, SqT X.K H p xs ∧ k = !xs.isEmpty) ∨ ∃ kvs, H p = some (.dK kvs) ∧ k = !kvs.isEmpty := e
    rcases e' with ⟨xs, hx, e'⟩ | ⟨xs, hx, e'⟩ | ⟨kvs, hx, e'⟩
    · subst e'
      obtain ⟨its, r, pl, hz⟩ := I.list hx
      have hlen := r.length
      exact wpAny_truthy_list pl.isList (by simp only [List.size_toArray]; omega) ⟨H, I.tok _, by rw [isEmpty_of r]; exact q⟩
    · subst e'
      obtain ⟨its, r, pl, hz⟩ := I.tuple hx
      have hlen := r.length
      exact truthy_tuple pl (by simp only [List.size_toArray]; omega) ⟨H, I.tok _, by rw [isEmpty_of r]; exact q⟩
    · subst e'
      obtain ⟨hz, hS, vs, r, m⟩ : kvs.length ≤ sizeLine ∧ (p == sysModules) = false ∧ ∃ vs, KV kvs vs ∧ s.heap.DictOf (mixKind X.prog X.w) p vs := I.hok p _ hx
      have hlen : kvs.length = vs.length := Paired.length r
      exact wpAny_truthy_dict hS m (by omega) ⟨H, I.tok _, by rw [isEmpty_kv r]; exact q⟩
  | _ => exact (show False from e).elim
/-! ### strs and bytes -/
theorem op_add_str : OpR X (binaryOp .Add) (fun x y H Q => ∃ i j, x = .str i ∧ y = .str j ∧ i.length + j.length ≤ sizeLine ∧ Q (.str (i ++ j)) H) := by
  intro pins s σ H x y v u Q I rx ry h
  obtain ⟨i, j, rfl, rfl, hz, q⟩ := h
  obtain ⟨t, rfl⟩ := rx
  obtain ⟨t', rfl⟩ := ry
  exact add_str (fun t' tk => ⟨.str (i ++ j), H, I.tok _, ⟨_, rfl⟩, q⟩) hz
/-! ### scalar builtins, by CallR -/
theorem vals1 {x : V} {us : List Value} (r : Vals [x] us) : ∃ u, us = [u] ∧ RelV x u := by
  cases r with
  | cons r1 r2 => cases r2; exact ⟨_, rfl, r1⟩
theorem vals2 {x y : V} {us : List Value} (r : Vals [x, y] us) : ∃ u w', us = [u, w'] ∧ RelV x u ∧ RelV y w' := by
  cases r with
  | cons r1 r2 =>
    cases r2 with
    | cons r3 r4 => cases r4; exact ⟨_, _, rfl, r1, r3⟩
theorem call_max2 (hc : X.calm = true) : CallR X (.builtin "max") (fun xs H Q => ∃ i j, xs = [.int i, .int j] ∧ Q (.int (if j > i then j else i)) H) := by
  intro pins s σ H xs us Q I r h
  obtain ⟨i, j, rfl, q⟩ := h
  obtain ⟨u, w', rfl, ⟨t, rfl⟩, ⟨t', rfl⟩⟩ := vals2 r
  refine max_two_ints (I.ok.hd hc) fun h' tk k => ⟨_, H, I.kept k, ?_, q⟩
  by_cases hj : j > i
  · rw [if_pos hj, if_pos hj]; exact ⟨_, rfl⟩
  · rw [if_neg hj, if_neg hj]; exact ⟨_, rfl⟩
theorem call_min2 (hc : X.calm = true) : CallR X (.builtin "min") (fun xs H Q => ∃ i j, xs = [.int i, .int j] ∧ Q (.int (if j < i then j else i)) H) := by
  intro pins s σ H xs us Q I r h
  obtain ⟨i, j, rfl, q⟩ := h
  obtain ⟨u, w', rfl, ⟨t, rfl⟩, ⟨t', rfl⟩⟩ := vals2 r
  refine min_two_ints (I.ok.hd hc) fun h' tk k => ⟨_, H, I.kept k, ?_, q⟩
  by_cases hj : j < i
  · rw [if_pos hj, if_pos hj]; exact ⟨_, rfl⟩
  · rw [if_neg hj, if_neg hj]; exact ⟨_, rfl⟩
theorem call_int1 : CallR X (.type "int") (fun xs H Q => (∃ i, xs = [.int i] ∧ Q (.int i) H) ∨ ∃ k, xs = [.bl k] ∧ Q (.int (if k then 1 else 0)) H) := by
  intro pins s σ H xs us Q I r h
  rcases h with ⟨i, rfl, q⟩ | ⟨k, rfl, q⟩
  · obtain ⟨u, rfl, t, rfl⟩ := vals1 r
    exact call_int_int ⟨.int i, H, I, ⟨_, rfl⟩, q⟩
  · obtain ⟨u, rfl, r1⟩ := vals1 r
    cases r1
    exact call_int_bool ⟨.int (if k then 1 else 0), H, I.tok _, ⟨_, rfl⟩, q⟩
end
end L2

namespace L2
open PySem PySem.Spec PyProof.Rows

/-! ### an instance, its attributes a map -/
structure ObjM (h : Heap) (x dx C : Addr) (mA : Str → Option Value) : Prop where
  obj : h.get? x = some (PySem.W.instObj C dx)
  ns : h.Ns1 dx mA
  ne : dx ≠ x

theorem lookIn_ns {h : Heap} {dx : Addr} {mA : Str → Option Value} (n : h.Ns1 dx mA) : ∃ od, h.get? dx = some od ∧ ∀ name, PySem.W.lookIn name od = some (mA name) := by
  obtain ⟨o, es, ep, ho, hd, hk, _, hm⟩ := n
  refine ⟨o, ho, fun name => ?_⟩
  have e := hm name
  unfold nsFind findBy at e
  rw [← Array.find?_toList] at e
  unfold PySem.W.lookIn
  rw [hd]
  dsimp only
  split
  · rename_i y q
    rw [q] at e
    exact congrArg some e
  · rename_i q
    rw [q] at e
    have a : es.toList.any (·.refKey) = false := by
      rw [List.any_eq_false]
      intro y hy
      obtain ⟨z, t, hkey⟩ := hk y (Array.mem_toList_iff.mp hy)
      simp [DictEntry.refKey, hkey]
    have a' : ¬ es.toList.any (·.refKey) = true := by rw [a]; exact Bool.false_ne_true
    rw [if_neg a']
    exact congrArg some e

theorem ObjM.look {h : Heap} {x dx C : Addr} {mA : Str → Option Value} (I : ObjM h x dx C mA) : ∃ od, PySem.W.InstAt h x (PySem.W.instObj C dx) C (some od) ∧ ∀ name, PySem.W.lookIn name od = some (mA name) :=
  let ⟨od, ho, hl⟩ := lookIn_ns I.ns
  ⟨od, ⟨I.obj, rfl, rfl, ho⟩, hl⟩

section
variable {prog : Program} {w : World} {A : Around} {E : Value → Shared → Prop} {s : Shared} {K : PySem.W.Frag} {x dx C f : Addr} {mA : Str → Option Value} {name : Str} {v : Value}

end

/-! ### the attributes as a list of pairs -/
section
variable {P : Program} {w : World} {H H' : Hp} {h h' : Heap} {a C dx : Addr} {fs fs' : List (Str × V)}
theorem ins_get (hok : HOk P w H h) (e : H a = some (.ins C dx fs)) : ∃ mA, ObjM h a dx C mA ∧ (∀ f, RelO (fs.lookup f) (mA f)) ∧ PySem.Within mA (fs.map (·.1)) ∧ fs.length ≤ 1000 ∧ H dx = some (.own a) := by
  obtain ⟨d, z, ne, ob, mA, n, r, q⟩ := (show ObjOk P w H h a (.ins C dx fs) from hok a _ e)
  exact ⟨mA, ⟨ob, n, ne⟩, r, q, z, d⟩
end

/-! ### what of the text a class must have -/
structure Cls (K : PySem.W.Frag) (C : Addr) : Prop where
  pg : PySem.W.plainGet K C Str.empty = true
  hd : PySem.W.hasDictIn K C = true
  po : PySem.W.plainOver K C = true
  sa : PySem.W.findIn K (.ref C) "__setattr__" = some (some (.builtin "object.__setattr__"))
theorem Cls.get {K : PySem.W.Frag} {C : Addr} (c : Cls K C) (f : Str) : PySem.W.plainGet K C f = true := c.pg
/-- a constant of the class -/
structure Con (K : PySem.W.Frag) (C : Addr) (f : Str) (v : V) (u : Value) : Prop where
  at_ : PySem.W.findIn K (.ref C) f = some (some u)
  rel : RelV v u
  get : PySem.W.specialIn K u "__get__" = some none
  cp : PySem.W.copiedNames.contains f = false
/-- a method: a plain def of the class or of one above it -/
structure Meth (K : PySem.W.Frag) (C : Addr) (m : Str) (f : Addr) : Prop where
  at_ : PySem.W.findIn K (.ref C) m = some (some (.ref f))
  fn : PySem.W.isFn K (.ref f) = true
  kp : PySem.W.keepIn K (.ref f) = true

section
variable {X : Cx} {pins : List (Addr × Obj)} {σ : St} {H : Hp} {s : Shared} {a C dx : Addr} {fs : List (Str × V)} {f : Str} {v : V} {A : Around} {E : Value → Shared → Prop}

end

/-! ### readings and rules -/
section
variable {X : Cx} {o e value : Expr} {f : Str} {pos pos' tpos : Pos} {ta tv : TE}
end

/-! ### isinstance -/
section
variable {X : Cx} {pins : List (Addr × Obj)} {σ : St} {H : Hp} {s : Shared} {A : Around} {E : Value → Shared → Prop} {Q : Value → Shared → Prop} {c : Value} {b : Bool}
/-- the type of a value, as the fragment's deciders take it; for an instance its class -/
inductive TyOf (K : PySem.W.Frag) (H : Hp) : V → Value → Prop where
  | non : TyOf K H .non (.type "NoneType")
  | bl (x : Bool) : TyOf K H (.bl x) (.type "bool")
  | int (i : Int) : TyOf K H (.int i) (.type "int")
  | str (x : Str) : TyOf K H (.str x) (.type "str")
  | flt (x : UInt64) : TyOf K H (.flt x) (.type "float")
  | lst {a : Addr} {xs : List V} (e : H a = some (.lst xs)) : TyOf K H (.ref a) (.type "list")
  | frz {a : Addr} {o : Obj} {xs : List V} (e : H a = some (.frz o (.lst xs))) : TyOf K H (.ref a) (.type "list")
  | tup {a : Addr} {xs : List V} (e : H a = some (.tup xs)) : TyOf K H (.ref a) (.type "tuple")
  | dK {a : Addr} {kvs : List (Key × V)} (e : H a = some (.dK kvs)) : TyOf K H (.ref a) (.type "dict")
  | dT {a : Addr} {kvs : List (List Key × V)} (e : H a = some (.dT kvs)) : TyOf K H (.ref a) (.type "dict")
  | ins {a C dx : Addr} {fs : List (Str × V)} (e : H a = some (.ins C dx fs)) (cl : Cls K C) (ha : PySem.W.findIn K (.ref C) "__class__" = some (some (.builtin "object.__class__")))
      (hn : PySem.W.specialIn K (.builtin "object.__class__") "__get__" = some (some (.builtin "getset_descriptor.__get__"))) (htk : PySem.W.takesIn K (.builtin "object.__class__") = some true)
      (hm : PySem.W.mroIn K C (.type "object") = some true) : TyOf K H (.ref a) (.ref C)
/-- isinstance(x, c) for one class c, a built-in or an own one: kitOne's answer -/
theorem isinst_ok {x : V} {u t : Value} (I : Inv X pins σ H s) (rx : RelV x u) (ty : TyOf X.K H x t) (e : PySem.W.kitOne X.K t c = some b) (h : ∀ tk, Q (.bool b) { s with toks := tk }) :
    wpAny (model X.prog X.w) A (call (.builtin "isinstance") [u, c]) Q E s := by
  cases ty with
  | non => cases (show u = Value.none from rx); exact PySem.W.kia_one PySem.W.kitx_none I.kIn True.intro e (fun z => nomatch z) h
  | bl y => cases (show u = Value.bool y from rx); exact PySem.W.kia_one PySem.W.kitx_bool I.kIn True.intro e (fun z => nomatch z) h
  | int i => obtain ⟨t, q⟩ := (show ∃ t, u = Value.int i t from rx); cases q; exact PySem.W.kia_one PySem.W.kitx_int I.kIn True.intro e (fun z => nomatch z) h
  | str y => obtain ⟨t, q⟩ := (show ∃ t, u = Value.str y t from rx); cases q; exact PySem.W.kia_one PySem.W.kitx_str I.kIn True.intro e (fun z => nomatch z) h
  | flt y => obtain ⟨t, q⟩ := (show ∃ t, u = Value.float y t from rx); cases q; exact PySem.W.kia_one PySem.W.kitx_float I.kIn True.intro e (fun z => nomatch z) h
  | @lst a xs ea =>
    cases (show u = Value.ref a from rx)
    obtain ⟨_, _, n, _, h1⟩ := (show ObjOk X.prog X.w H s.heap a (.lst xs) from I.hok a _ ea)
    exact PySem.W.kia_one PySem.W.kitx_list I.kIn ⟨_, h1, rfl⟩ e (fun z => nomatch z) h
  | @frz a ob xs ea =>
    cases (show u = Value.ref a from rx)
    obtain ⟨_, _, _, n, _, h1⟩ := (show ObjOk X.prog X.w H s.heap a (.frz ob (.lst xs)) from I.hok a _ ea)
    exact PySem.W.kia_one PySem.W.kitx_list I.kIn ⟨_, h1, rfl⟩ e (fun z => nomatch z) h
  | @tup a xs ea =>
    cases (show u = Value.ref a from rx)
    obtain ⟨_, _, _, p⟩ := (show ObjOk X.prog X.w H s.heap a (.tup xs) from I.hok a _ ea)
    obtain ⟨o, h1, h2, _⟩ := p
    exact PySem.W.kia_one PySem.W.kitx_tuple I.kIn ⟨o, h1, h2⟩ e (fun z => nomatch z) h
  | @dK a kvs ea =>
    cases (show u = Value.ref a from rx)
    obtain ⟨_, _, vs, _, p⟩ := (show ObjOk X.prog X.w H s.heap a (.dK kvs) from I.hok a _ ea)
    obtain ⟨o, es, ep, h1, h2, _⟩ := p
    exact PySem.W.kia_one PySem.W.kitx_dict I.kIn ⟨o, h1, h2.1⟩ e (fun z => nomatch z) h
  | @dT a kvs ea =>
    cases (show u = Value.ref a from rx)
    obtain ⟨_, _, xs, _, o, es, ep, h1, h2, _⟩ := (show ObjOk X.prog X.w H s.heap a (.dT kvs) from I.hok a _ ea)
    exact PySem.W.kia_one PySem.W.kitx_dict I.kIn ⟨o, h1, h2.1⟩ e (fun z => nomatch z) h
  | @ins a C dx fs ea cl ha hn htk hm =>
    cases (show u = Value.ref a from rx)
    obtain ⟨mA, O, _⟩ := ins_get I.hok ea
    obtain ⟨od, J, _⟩ := O.look
    exact PySem.W.kia_one (PySem.W.kitx_own (cl.get _) cl.hd ha hn htk hm) I.kIn J e (fun z => nomatch z) h
end
end L2

namespace L2
open PySem PySem.Spec PyProof.Rows

/-! ### room -/
structure Room (k : Nat) (A : Around) : Prop where
  hd : A.handled = none
  dp : A.depth + 3 * k + 5 < recursionLimit
  un : A.units + 16 * k + 200 < cLine
  gd : A.guards = some []
theorem Room.mono {j k : Nat} {A : Around} (r : Room k A) (h : j ≤ k) : Room j A := ⟨r.hd, by have := r.dp; omega, by have := r.un; omega, r.gd⟩
theorem Room.deeper {k : Nat} {A : Around} (r : Room (k + 1) A) (env : Env) : Room k (A.deeper env) :=
  ⟨r.hd, by have := r.dp; show A.depth + 1 + 3 * k + 5 < _; omega, by have := r.un; show A.units + 3 + 16 * k + 200 < _; omega, r.gd⟩
theorem Room.depth {k : Nat} {A : Around} (r : Room k A) : A.depth < recursionLimit := by have := r.dp; omega
theorem Room.units {k : Nat} {A : Around} (r : Room k A) : A.units + 64 < cLine := by have := r.un; omega
theorem Room.units0 {k : Nat} {A : Around} (r : Room k A) : A.units < cLine := by have := r.un; omega

/-! ### argument lists and displays -/
def tNil : TA := fun _ H Q => Q [] H
def tCons (ta : TE) (tr : TA) : TA := fun σ H Q => ta σ H fun x H1 => tr σ H1 fun xs H2 => Q (x :: xs) H2
section
variable {X : Cx} {e : Expr} {es : List Expr} {te : TE} {t : TA} {pos : Pos}
theorem pa_nil : PA X [] tNil := fun _ _ _ _ H Q I h => Calls.spliced_nil ⟨[], H, I, .nil, h⟩
theorem pa_cons (ha : PE X e te) (hr : PA X es t) (hs : starEach (e :: es) X.env = (false, eval e X.env) :: starEach es X.env := by rfl) : PA X (e :: es) (tCons te t) := by
  intro pos pins s σ H Q I h
  rw [hs]
  show wpAny _ _ (spliced ((false, eval e X.env) :: backTo pos (starEach es X.env))) _ _ s
  refine Calls.spliced_cons (thn (ha pins s σ H _ I h) fun u s1 ⟨x, H1, I1, r1, q1⟩ => ?_)
  exact thn (hr pos pins s1 σ H1 _ I1 q1) fun us s2 ⟨xs, H2, I2, r2, q2⟩ => ⟨x :: xs, H2, I2, .cons r1 r2, q2⟩

/-- a tuple, a list of written items -/
def tTup (t : TA) : TE := fun σ H Q => t σ H fun xs H1 => xs.length ≤ sizeLine ∧ ∀ p, H1 p = none → Q (.ref p) (upd H1 p (.tup xs))
def tLst (t : TA) : TE := fun σ H Q => t σ H fun xs H1 => xs.length ≤ sizeLine ∧ ∀ p, H1 p = none → Q (.ref p) (upd H1 p (.lst xs))
theorem pe_tup {x1} (h : PA X es t) : PE X (.Tuple es x1 pos) (tTup t) := by
  intro pins s σ H Q I hq
  refine wpAny_Tuple_spliced (thn (h pos pins s σ H _ I hq) fun us s1 ⟨xs, H1, I1, r, z, q⟩ => ⟨by rw [← r.length]; exact z, ?_⟩)
  have hf : H1 s1.heap.objs.size = none := I1.hok.fresh (Nat.le_refl _)
  refine ⟨.ref s1.heap.objs.size, upd H1 s1.heap.objs.size (.tup xs), I1.laid (t' := s1.toks) (fun b u e => Heap.get?_push_of_some _ e) (Nat.le_refl _) ?_, rfl, q _ hf⟩
  exact ⟨z, us, r, ⟨_, Heap.get?_push_size _ rfl, rfl, _, rfl⟩⟩
theorem pe_lst (h : PA X es t) : PE X (.List es pos) (tLst t) := by
  intro pins s σ H Q I hq
  refine wpAny_List_spliced (thn (h pos pins s σ H _ I hq) fun us s1 ⟨xs, H1, I1, r, z, q⟩ => ⟨by rw [← r.length]; exact z, ?_⟩)
  have hf : H1 s1.heap.objs.size = none := I1.hok.fresh (Nat.le_refl _)
  refine ⟨.ref s1.heap.objs.size, upd H1 s1.heap.objs.size (.lst xs), I1.laid (t' := s1.toks) (fun b u e => Heap.get?_push_of_some _ e) (Nat.le_refl _) ?_, rfl, q _ hf⟩
  exact ⟨z, us, 0, r, Heap.get?_push_size _ rfl⟩
end

/-! ### what a def promises -/
/-- a def's promise: the bound arguments in the parameters' order, the heap, the wanted end, the wanted exception -/
abbrev Sp := List V → Hp → VK → XK → Prop
/-- how an exception lies behind a call (file 08 gives it): the callers' frames, abstract heap and state ahead of the call, the wish, the exception, the state -/
abbrev CXT := List Env → Hp → Shared → XK → Value → Shared → Prop

/-- the state at a call -/
structure Env0 (P : Program) (w : World) (K : PySem.W.Frag) (mg : Str → Option Value) (base : Heap) (A : Around) (outer : List Env) (s : Shared) (H : Hp) : Prop where
  frames : A.frames = some outer
  mod : Mod K mg base
  bs : ∀ b o, base.get? b = some o → s.heap.get? b = some o ∧ H b = none
  bsz : base.objs.size ≤ s.heap.objs.size
  funs : s.heap.FunFrames base outer
  frf : ∀ b ∈ frs outer, H b = none
  hok : HOk P w H s.heap
  bare : AllBare s.gens
/-- a call's end -/
def CE (outer : List Env) (P : Program) (w : World) (H : Hp) (s : Shared) (Q : VK) (u : Value) (s' : Shared) : Prop :=
  ∃ v H', s'.os = s.os ∧ AllBare s'.gens ∧ Un (frs outer) [] H H' s.heap s'.heap ∧ HOk P w H' s'.heap ∧ RelV v u ∧ Q v H'
def CR (CX : CXT) (outer : List Env) (P : Program) (w : World) (H : Hp) (s : Shared) (Q : VK) (E : XK) (r : Result) (s' : Shared) : Prop :=
  match r with
  | .ok (.ret u) => CE outer P w H s Q u s'
  | .ok _ => False
  | .error e => CX outer H s E e s'
structure FnOk (P : Program) (w : World) (K : PySem.W.Frag) (mg : Str → Option Value) (base : Heap) (CX : CXT) (k : Nat) (f : Addr) (fd : FuncData) (ps : List Str) (sp : Sp) : Prop where
  len : ∀ vs H Q E, sp vs H Q E → vs.length = ps.length
  run : ∀ (A : Around) (outer : List Env) (s : Shared) (H : Hp) (args : Args) (us : List Value) (vs : List V) (Q : VK) (E : XK), Room k A → Env0 P w K mg base A outer s H → BindsTo s fd args (ps.zip us) → Vals vs us → sp vs H Q E →
    codeAny (model P w) A (.call (.ref f) args) (CR CX outer P w H s Q E) s
section
variable {X : Cx} {pins : List (Addr × Obj)} {σ : St} {H : Hp} {s s' : Shared}
/-- from a body: what a callee wants -/
theorem Inv.env0 (I : Inv X pins σ H s) : Env0 X.prog X.w X.K X.mg X.base X.A X.stack s H :=
  ⟨I.ok.frames, I.ok.mod, I.bs, Nat.le_trans I.ok.bsz I.sz, I.stack, I.stkFree, I.hok, I.bare⟩
/-- behind a call -/
theorem Inv.after {Q : VK} {u : Value} (I : Inv X pins σ H s) (h : CE X.stack X.prog X.w H s Q u s') : EP X pins σ Q u s' := by
  obtain ⟨v, H', os, bare, un, hok, r, q⟩ := h
  obtain ⟨hh, g, d, t, os'⟩ := s'
  obtain rfl : os' = s.os := os
  exact ⟨v, H', I.call (h' := hh) (g' := g) (d' := d) (t' := t) (ch := []) un hok bare (fun b z => absurd z (by simp)), r, q⟩
end

/-! ### calls -/
/-- f(..): the written arguments, then the defaults dvs; E: what is wanted of an exception -/
def tCall (sp : Sp) (dvs : List V) (E : XK) (t : TA) : TE := fun σ H Q => t σ H fun vs H1 => sp (vs ++ dvs) H1 Q E
/-- how the parameters are bound: us the positional arguments, kw the keywords' values by name, ds the defaults that fill up -/
def Binds (K : PySem.W.Frag) (fd : FuncData) (ps : List Str) (ds : List Value) : Prop :=
  ∀ (s : Shared) (us : List Value), K.In s.heap → (us ++ ds).length = ps.length → BindsTo s fd ⟨us, []⟩ (ps.zip (us ++ ds))
/-- every parameter is given -/
theorem Binds.all {K : PySem.W.Frag} {fd : FuncData} {ps : List Str} (h : ∀ us : List Value, us.length = ps.length → bindArgs fd ⟨us, []⟩ = pure (ps.zip us)) : Binds K fd ps [] := fun s us _ hl => by
  rw [List.append_nil] at hl ⊢
  exact .of_eq (h us hl)

/-- an exception of a callee reaches what this body wants of exceptions -/
def Passes (CX : CXT) (X : Cx) (E : XK) : Prop := ∀ (pins : List (Addr × Obj)) (σ : St) (H : Hp) (s : Shared) (e : Value) (s' : Shared), Inv X pins σ H s → CX X.stack H s E e s' → X.xe e s'

section
variable {X : Cx} {CX : CXT} {k : Nat} {f C : Addr} {fd : FuncData} {ps : List Str} {sp : Sp} {dvs : List V} {ds : List Value} {E : XK} {x m : Str} {p pos apos : Pos} {e o : Expr} {es : List Expr} {ta : TE} {t : TA}

/-- the callee runs -/
theorem run_fn {pins : List (Addr × Obj)} {σ : St} {H : Hp} {s : Shared} {Q : VK} {us : List Value} {vs : List V} (F : FnOk X.prog X.w X.K X.mg X.base CX k f fd ps sp) (hr : Room k X.A) (hb : Binds X.K fd ps ds) (hd : Vals dvs ds) (hx : Passes CX X E)
    (I : Inv X pins σ H s) (r : Vals vs us) (h : sp (vs ++ dvs) H Q E) : wpAny (model X.prog X.w) X.A (call (.ref f) us) (EP X pins σ Q) X.xe s := by
  have r2 : Vals (vs ++ dvs) (us ++ ds) := r.append hd
  have hl : (us ++ ds).length = ps.length := by rw [← r2.length]; exact F.len _ _ _ _ h
  refine wpAny_call (codeAny_mono (F.run X.A X.stack s H ⟨us, []⟩ (us ++ ds) (vs ++ dvs) Q E hr I.env0 (hb s us I.kIn hl) r2 h) fun r s' hq => ?_)
  cases r with
  | error e => exact hx pins σ H s e s' I hq
  | ok fl =>
    cases fl with
    | ret u => exact I.after hq
    | next => exact False.elim hq
    | brk => exact False.elim hq
    | cont => exact False.elim hq

theorem pe_call (F : FnOk X.prog X.w X.K X.mg X.base CX k f fd ps sp) (hr : Room k X.A) (hg : Gl X x) (hm : X.mg x = some (.ref f)) (hk : PySem.W.keepIn X.K (.ref f) = true) (hb : Binds X.K fd ps ds) (hd : Vals dvs ds) (hx : Passes CX X E)
    (ha : PA X (e :: es) t) (hdb : (x == ("__debug__" : Str)) = false := by decide) (he : starEach (e :: es) X.env = (false, eval e X.env) :: starEach es X.env := by rfl) (hpl : (backTo pos (starEach es X.env)).any (·.1) = false := by rfl) :
    PE X (.Call (.Name x p) (e :: es) [] pos) (tCall sp dvs E t) := by
  intro pins s σ H Q I h
  refine wpAny_Call_Name_kw (ld_glob I hg hm ?_ hdb)
  refine PySem.W.callWith_K (h₀ := X.base) I.ok.mod.kin hk (thn (ha pos pins s σ H _ I h) fun us s1 ⟨vs, H1, I1, r, q⟩ => ⟨I1.kIn, ?_⟩) he hpl
  exact run_fn F hr hb hd hx I1 r q
/-- what a class must have to be made -/
structure Mk (K : PySem.W.Frag) (C f : Addr) : Prop where
  makes : PySem.W.makesIn K C = true
  init : PySem.W.findIn K (.ref C) "__init__" = some (some (.ref f))
  fn : PySem.W.isFn K (.ref f) = true
  kp : PySem.W.keepIn K (.ref C) = true

end

/-! ### keywords -/
/-- the values of the keywords, from the left -/
def PK (X : Cx) (kws : List Keyword) (t : TA) : Prop :=
  ∀ (pos : Pos) (pins : List (Addr × Obj)) (s : Shared) (σ : St) (H : Hp) (Q : List V → Hp → Prop), Inv X pins σ H s → t σ H Q → wpAny (model X.prog X.w) X.A (evalAll ((backToKw pos (keywordEach kws X.env)).map (·.2))) (AP X pins σ Q) X.xe s
section
variable {X : Cx} {CX : CXT} {k : Nat} {f C : Addr} {fd : FuncData} {ps ks : List Str} {sp : Sp} {E : XK} {x m : Str} {p pos apos kpos : Pos} {e o : Expr} {es : List Expr} {kws : List Keyword} {te ta : TE} {t tk : TA} {nm : Option Str}
theorem pk_nil : PK X [] tNil := fun _ _ _ _ H Q I h => wpAny_evalAll_nil ⟨[], H, I, .nil, h⟩
theorem pk_cons (ha : PE X e te) (hr : PK X kws t) : PK X (⟨nm, e, kpos⟩ :: kws) (tCons te t) := by
  intro pos pins s σ H Q I h
  show wpAny _ _ (evalAll ((do let v ← eval e X.env; standAt pos; pure v) :: (backToKw pos (keywordEach kws X.env)).map (·.2))) _ _ s
  refine wpAny_evalAll_cons (wpAny_bind (thn (ha pins s σ H _ I h) fun u s1 ⟨x, H1, I1, r1, q1⟩ => wpAny_bind (wpAny_standAt (wpAny_pure ?_))))
  exact thn (hr pos pins s1 σ H1 _ I1 q1) fun us s2 ⟨xs, H2, I2, r2, q2⟩ => ⟨x :: xs, H2, I2, .cons r1 r2, q2⟩

/-- how a call with keywords binds: g puts the positional values us and the keywords' values ws (names ks) in the parameters' order, defaults among them -/
structure KBinds (K : PySem.W.Frag) (fd : FuncData) (ps ks : List Str) (g : List Value → List Value → List Value) (gV : List V → List V → List V) : Prop where
  to : ∀ (s : Shared) (us ws : List Value), K.In s.heap → (g us ws).length = ps.length → BindsTo s fd ⟨us, ks.zip ws⟩ (ps.zip (g us ws))
  rel : ∀ {vs : List V} {us : List Value} {zs : List V} {ws : List Value}, Vals vs us → Vals zs ws → Vals (gV vs zs) (g us ws)
variable {g : List Value → List Value → List Value} {gV : List V → List V → List V}
end

/-! ### a def's body keeps its promise -/
/-- names: the parameters first -/
structure FnScope (N P : List Str) (sc : Scope) : Prop where
  kind : sc.kind = .function
  co : sc.isCoroutine = false
  gen : sc.isGenerator = false
  nd : N.Nodup
  pre : N.take P.length = P
  par : ∀ x ∈ P, sc.names.lookup x = some .local ∨ sc.names.lookup x = some .cell
  nofree : ∀ y ∈ sc.names, y.2 ≠ .free

theorem bindL_out {kindOf : Str → Option NameKind} {x : Str} : ∀ {binds : List (Str × Value)} {m : Str → Option Value}, (∀ v, (x, v) ∉ binds) → bindL kindOf binds m x = m x
  | [], _, _ => rfl
  | (n, v) :: r, m, h => by
    unfold bindL
    rw [bindL_out fun w hw => h w (List.mem_cons_of_mem _ hw)]
    split
    · have : x ≠ n := by rintro rfl; exact h v List.mem_cons_self
      simp [this]
    · rfl
theorem bindC_out {kindOf : Str → Option NameKind} {x : Str} : ∀ {binds : List (Str × Value)} {m : Str → Option Value}, (∀ v, (x, v) ∉ binds) → bindC kindOf binds m x = m x
  | [], _, _ => rfl
  | (n, v) :: r, m, h => by
    unfold bindC
    rw [bindC_out fun w hw => h w (List.mem_cons_of_mem _ hw)]
    split
    · rfl
    · have : x ≠ n := by rintro rfl; exact h v List.mem_cons_self
      simp [this]
theorem bindL_get {kindOf : Str → Option NameKind} {x : Str} {v : Value} : ∀ {P : List Str} {vs : List Value} {i : Nat} {m : Str → Option Value}, P.Nodup → P[i]? = some x → vs[i]? = some v → kindOf x = some .local →
    bindL kindOf (P.zip vs) m x = some v
  | [], _, _, _, _, h, _, _ => by simp at h
  | _ :: _, [], _, _, _, _, h, _ => by simp at h
  | p :: P, w :: vs, 0, m, nd, h1, h2, hk => by
    simp at h1 h2; subst h1; subst h2
    show bindL kindOf ((p, w) :: P.zip vs) m p = _
    unfold bindL
    rw [bindL_out fun v hv => (List.nodup_cons.mp nd).1 (List.of_mem_zip hv).1, if_pos hk]
    simp
  | p :: P, w :: vs, i + 1, m, nd, h1, h2, hk => by
    show bindL kindOf ((p, w) :: P.zip vs) m x = _
    unfold bindL
    exact bindL_get (i := i) (List.nodup_cons.mp nd).2 (by simpa using h1) (by simpa using h2) hk
theorem bindC_get {kindOf : Str → Option NameKind} {x : Str} {v : Value} : ∀ {P : List Str} {vs : List Value} {i : Nat} {m : Str → Option Value}, P.Nodup → P[i]? = some x → vs[i]? = some v → kindOf x ≠ some .local →
    bindC kindOf (P.zip vs) m x = some v
  | [], _, _, _, _, h, _, _ => by simp at h
  | _ :: _, [], _, _, _, _, h, _ => by simp at h
  | p :: P, w :: vs, 0, m, nd, h1, h2, hk => by
    simp at h1 h2; subst h1; subst h2
    show bindC kindOf ((p, w) :: P.zip vs) m p = _
    unfold bindC
    rw [bindC_out fun v hv => (List.nodup_cons.mp nd).1 (List.of_mem_zip hv).1, if_neg hk]
    simp
  | p :: P, w :: vs, i + 1, m, nd, h1, h2, hk => by
    show bindC kindOf ((p, w) :: P.zip vs) m x = _
    unfold bindC
    exact bindC_get (i := i) (List.nodup_cons.mp nd).2 (by simpa using h1) (by simpa using h2) hk

/-- the names' values at the entry -/
def start (N : List Str) (vs : List V) : St := vs.map some ++ List.replicate (N.length - vs.length) none

/-- the context of a def's body, at its entry; an exception leaves the frame, then lies as CX says -/
def cxOf (CX : CXT) (P : Program) (w : World) (K : PySem.W.Frag) (mg : Str → Option Value) (base : Heap) (N : List Str) (qual : Str) (scope : Scope) (f : Addr) (cd : Value) (A : Around) (outer : List Env) (s : Shared) (H : Hp) (E : XK) : Cx where
  prog := P
  w := w
  K := K
  mg := mg
  base := base
  A := A.deeper (envOfC qual scope s.heap.objs.size f cd)
  N := N
  s₀ := s
  H₀ := H
  env := envOfC qual scope s.heap.objs.size f cd
  outer := outer
  stack := envOfC qual scope s.heap.objs.size f cd :: outer
  ex := []
  calm := true
  fn := fun _ => true
  pn := []
  xe := fun e s' => wpAny (model P w) (A.deeper (envOfC qual scope s.heap.objs.size f cd)) (leaving (envOfC qual scope s.heap.objs.size f cd) e) (fun _ s'' => CX outer H s E e s'') (fun e' s'' => CX outer H s E e' s'') s'

theorem cell_has {sc : Scope} {n : Nat} {x : Str} (h : sc.names.lookup x = some .cell) : ∃ c, (cellsFrom n sc.names []).lookup x = some c := by
  have q := PySem.W.cellsFrom_some sc.names n [] (.inl h)
  exact Option.isSome_iff_exists.mp q

theorem inv_start {CX : CXT} {P : Program} {w : World} {K : PySem.W.Frag} {mg : Str → Option Value} {base : Heap} {N ps : List Str} {qual : Str} {scope : Scope} {f : Addr} {cd : Value} {A : Around} {outer : List Env} {s s1 : Shared} {H : Hp} {E : XK} {us : List Value} {vs : List V}
    (S : FnScope N ps scope) (hd : A.handled = none) (e0 : Env0 P w K mg base A outer s H) (hl : vs.length = ps.length) (r : Vals vs us)
    (x : InCallC s s.heap.objs.size (bindL (envOfC qual scope s.heap.objs.size f cd).kindOf (ps.zip us) fun _ => none) (cellsFrom (s.heap.objs.size + 1) scope.names []) (bindC (envOfC qual scope s.heap.objs.size f cd).kindOf (ps.zip us) fun _ => none) s1) :
    Inv (cxOf CX P w K mg base N qual scope f cd A outer s H E) [] (start N vs) H s1 := by
  have hpl : ps.length ≤ N.length := by have := congrArg List.length S.pre; rw [List.length_take] at this; omega
  obtain ⟨h1, tk, rfl, hk⟩ := x.done
  have noA : ∀ b : Addr, b ∉ (cxOf CX P w K mg base N qual scope f cd A outer s H E).ex := fun b z => absurd (show b ∈ ([] : List Addr) from z) (by simp)
  refine ⟨⟨e0.mod, S.kind, rfl, rfl, Nat.le_refl _, fun y z c h1 h2 => ?_, fun y hy => ?_, fun y c _ h => ?_, fun _ => hd, Around.frames_deeper e0.frames, .inr ⟨rfl, rfl⟩, fun b z => absurd z (noA b), e0.bs, e0.bsz, fun b _ _ => noA b, fun b z => absurd z (noA b), e0.funs, e0.frf⟩,
    rfl, e0.bare, Un.kept hk, ⟨_, x.toInCall.ns, fun i y v h1 h2 h3 => ?_⟩, fun y c h => ⟨_, x.cell y c h⟩, e0.hok.fresh (Nat.le_refl _), fun y c h => ?_, fun p hp => absurd (show p ∈ ([] : List (Addr × Obj)) from hp) (by simp), e0.hok.kept hk, ?_⟩
  · exact name_of_addr x.apart (PySem.mem_of_lookup h1) (PySem.mem_of_lookup h2)
  · have hy : scope.names.lookup y = some .cell ∨ scope.names.lookup y = some .free := hy
    rcases hy with hy | hy
    · exact cell_has hy
    · exact absurd rfl (S.nofree _ (PySem.mem_of_lookup hy))
  · exact Nat.le_of_lt (x.above y c (PySem.mem_of_lookup h))
  · have hi : i < vs.length := by
      unfold start at h2
      by_cases hi : i < vs.length
      · exact hi
      · rw [List.getElem?_append_right (by simpa using hi)] at h2
        rw [List.getElem?_replicate] at h2
        split at h2 <;> cases h2
    have ha : vs[i]? = some v := by
      unfold start at h2
      rw [List.getElem?_append_left (by simpa using hi), List.getElem?_map] at h2
      cases e : vs[i]? with
      | none => rw [e] at h2; cases h2
      | some a => rw [e] at h2; cases h2; rfl
    obtain ⟨u, hu, rv⟩ := r.get ha
    have hp : ps[i]? = some y := by
      rw [← S.pre, List.getElem?_take_of_lt (by omega)]; exact h1
    have ndP : ps.Nodup := by rw [← S.pre]; exact S.nd.sublist (List.take_sublist _ _)
    refine ⟨u, rv, ?_⟩
    rcases S.par y (List.mem_of_getElem? hp) with k | k
    · exact .inl ⟨k, bindL_get ndP hp hu k⟩
    · obtain ⟨c, e⟩ := cell_has (n := s.heap.objs.size + 1) k
      refine .inr ⟨.inl k, c, e, ?_⟩
      have q := x.cell y c e
      rw [bindC_get ndP hp hu (by show scope.names.lookup y ≠ _; rw [k]; decide)] at q
      exact q
  · exact e0.hok.fresh (Nat.le_of_lt (x.above y c (PySem.mem_of_lookup h)))
  · unfold start
    show _ = N.length
    rw [List.length_append, List.length_map, List.length_replicate]
    omega

/-- THE RULE: a def (or a method) of the text, by its body. The body's reading t is chosen for each entry; it is run at the parameters' values -/
theorem fn_of {CX : CXT} {P : Program} {w : World} {K : PySem.W.Frag} {mg : Str → Option Value} {base : Heap} {k : Nat} {f : Addr} {name qual : Str} {params : Arguments} {body : List Stmt} {scope : Scope} {dV kV doc pm cdv ct oc : Value} {an od : Option Addr}
    {osl : Array (Option Value)} {N ps : List Str} {sp : Sp} (lk : K.lookup f = some ⟨oc, od, .func (PySem.W.fnOf name qual params body scope dV kV doc pm an cdv ct), osl⟩) (hcd : PySem.W.codeIn K cdv qual = true) (S : FnScope N ps scope)
    (len : ∀ vs H Q E, sp vs H Q E → vs.length = ps.length)
    (hbody : ∀ (A : Around) (outer : List Env) (s : Shared) (H : Hp) (vs : List V) (Q : VK) (E : XK), Room k (A.deeper (envOfC qual scope s.heap.objs.size f cdv)) → sp vs H Q E →
      ∃ t, PSs (cxOf CX P w K mg base N qual scope f cdv A outer s H E) body t ∧ t { nx := fun _ H' => Q .non H', rt := Q } (start N vs) H) :
    FnOk P w K mg base CX (k + 1) f (PySem.W.fnOf name qual params body scope dV kV doc pm an cdv ct) ps sp := by
  refine ⟨len, fun A outer s H args us vs Q E hr e0 hb r hsp => ?_⟩
  have hl := len _ _ _ _ hsp
  have KX : K.In s.heap := e0.mod.kin.keeps fun b o e => (e0.bs b o e).1
  have lim : s.heap.NoLimit := e0.mod.nolimit.keeps fun b o e => (e0.bs b o e).1
  have hkind : ∀ y ∈ ps.zip us, scope.names.lookup y.1 = some .local ∨ (scope.names.lookup y.1 = some .cell ∧ ((cellsFrom (s.heap.objs.size + 1) scope.names []).lookup y.1).isSome = true) := fun ⟨n, v⟩ hy => by
    rcases S.par n (List.of_mem_zip hy).1 with q | q
    · exact .inl q
    · exact .inr ⟨q, PySem.W.cellsFrom_some _ _ _ (.inl q)⟩
  refine codeAny_call_function hr.depth (KX _ _ lk) rfl S.co S.gen rfl (PySem.W.codeRec_of KX hcd) (hb _ _ _ _ ?_)
  refine wpAny_newFunctionEnv_cells S.kind hkind fun env he s1 x => ?_
  subst he
  refine ⟨lim.keeps x.toInCall.keep, codeAny_func ?_⟩
  obtain ⟨t, ht, hq⟩ := hbody A outer s H vs Q E (hr.deeper _) hsp
  have I : Inv (cxOf CX P w K mg base N qual scope f cdv A outer s H E) [] (start N vs) H s1 := inv_start S hr.hd e0 hl r x
  refine wpAny_mono (ht [] s1 (start N vs) H _ I hq) (fun fl s' hs => ?_) fun e s' hs => hs
  have fin : ∀ {σ' : St} {H' : Hp} {v : V} {u : Value}, Inv (cxOf CX P w K mg base N qual scope f cdv A outer s H E) [] σ' H' s' → RelV v u → Q v H' → CE outer P w H s Q u s' :=
    fun {σ' H' v u} J rv q => ⟨v, H', J.os, J.bare, J.base, J.hok, rv, q⟩
  cases fl with
  | ret u =>
    obtain ⟨v, σ', H', J, rv, q⟩ := hs
    exact fin J rv q
  | next =>
    obtain ⟨σ', H', J, q⟩ := hs
    exact fin (v := V.non) (u := Value.none) J rfl q
  | brk =>
    obtain ⟨_, _, _, q⟩ := hs
    exact False.elim q
  | cont =>
    obtain ⟨_, _, _, q⟩ := hs
    exact False.elim q
end L2

namespace L2
open PySem PySem.Spec PyProof.Rows
section
variable {X : Cx} {x : Str} {p pos : Pos} {e : Expr} {es : List Expr} {t : TA} {id T : String} {r : List V → Hp → VK → Prop}

def tCB (r : List V → Hp → VK → Prop) (t : TA) : TE := fun σ H Q => t σ H fun vs H1 => r vs H1 Q
/-- f(e, ..), f a built-in function -/
theorem pe_callB (hc : CallR X (.builtin id) r) (hg : Gl X x) (hm : X.mg x = none) (hv : bootBuiltins x = some (.builtin id)) (ha : PA X (e :: es) t) (hn : x ≠ "__name__" := by decide) (hdb : (x == ("__debug__" : Str)) = false := by decide)
    (he : starEach (e :: es) X.env = (false, eval e X.env) :: starEach es X.env := by rfl) (hpl : (backTo pos (starEach es X.env)).any (·.1) = false := by rfl) : PE X (.Call (.Name x p) (e :: es) [] pos) (tCB r t) := by
  intro pins s σ H Q I h
  refine wpAny_Call_Name_kw (ld_blt I hg hm hv ?_ hn hdb)
  exact PyProof.Rows.callWith_builtin1 (thn (ha pos pins s σ H _ I h) fun us s1 ⟨vs, H1, I1, r1, q1⟩ => hc pins s1 σ H1 vs us Q I1 r1 q1) he hpl
/-- T(e, ..), T a built-in type -/
theorem pe_callTy (hc : CallR X (.type T) r) (hg : Gl X x) (hm : X.mg x = none) (hv : bootBuiltins x = some (.type T)) (ha : PA X (e :: es) t) (hn : x ≠ "__name__" := by decide) (hdb : (x == ("__debug__" : Str)) = false := by decide)
    (he : starEach (e :: es) X.env = (false, eval e X.env) :: starEach es X.env := by rfl) (hpl : (backTo pos (starEach es X.env)).any (·.1) = false := by rfl) : PE X (.Call (.Name x p) (e :: es) [] pos) (tCB r t) := by
  intro pins s σ H Q I h
  refine wpAny_Call_Name_kw (ld_blt I hg hm hv ?_ hn hdb)
  exact PyProof.Rows.callWith_type1 (thn (ha pos pins s σ H _ I h) fun us s1 ⟨vs, H1, I1, r1, q1⟩ => hc pins s1 σ H1 vs us Q I1 r1 q1) he hpl
end
end L2

namespace HT
open PySem PyProof.Rows

section
open PySem.SeqAt
open PySem.AutoSeq1 (wpAny_loadPart')
open PySem.MeetsSeq PySem.MeetsSeq2 PySem.MeetsSeq3

end

section
variable {prog : Program} {w : World} {A : Around} {E : Value → Shared → Prop} {s : Shared}

/-! ### t[a:b], not the whole -/
/-- a slice's bound as a place among n (d where it is left out) -/
def sIx (n d : Nat) : Option Int → Nat
  | none => d
  | some v => if v < 0 then (v + (n : Int)).toNat else min v.toNat n
theorem sIx_nat (n d k : Nat) : sIx n d (some (k : Int)) = min k n := by
  show (if (k : Int) < 0 then ((k : Int) + (n : Int)).toNat else min (k : Int).toNat n) = min k n
  rw [if_neg (by omega), Int.toNat_natCast]
end
end HT

namespace L2
open PySem PySem.Spec PyProof.Rows

/-! ### the parts of a slice -/
abbrev TO := St → Hp → (Option Int → Hp → Prop) → Prop
/-- a slice's part (left out, or an int) -/
def PO (X : Cx) (e : Option Expr) (t : TO) : Prop :=
  ∀ (pins : List (Addr × Obj)) (s : Shared) (σ : St) (H : Hp) (Q : Option Int → Hp → Prop), Inv X pins σ H s → t σ H Q →
    wpAny (model X.prog X.w) X.A (evalPart e X.env) (fun u s' => ∃ o H', Inv X pins σ H' s' ∧ IsPart u o ∧ Q o H') X.xe s
def tNoPart : TO := fun _ H Q => Q none H
theorem intsAre_of {ns : List Int} : ∀ {us : List Value}, Vals (ns.map V.int) us → IntsAre us ns := by
  induction ns with
  | nil => intro us r; rw [List.map_nil] at r; cases r; exact .nil
  | cons n ns ih =>
    intro us r
    rw [List.map_cons] at r
    cases r with
    | cons r1 r2 =>
      obtain ⟨t, e⟩ := r1
      subst e
      exact .cons n t (ih r2)

section
variable {X : Cx} {e : Expr} {te : TE} {lo hi : Option Expr} {tl th : TO} {pos p2 : Pos}

theorem po_none : PO X none tNoPart := by
  intro pins s σ H Q I h
  rw [evalPart_none]
  exact wpAny_pure ⟨none, H, I, .none, h⟩
/-- what a slice of a value is, by values: the slice object stands at sl -/
def SlR (X : Cx) (r : V → Option Int → Option Int → Hp → VK → Prop) : Prop :=
  ∀ (pins : List (Addr × Obj)) (s : Shared) (σ : St) (H : Hp) (x : V) (v vl vu : Value) (lo hi : Option Int) (sl : Addr) (Q : VK), Inv X pins σ H s → RelV x v → s.heap.IsSliceOf sl vl vu .none → IsPart vl lo → IsPart vu hi → r x lo hi H Q →
    ∃ T id, typeLookup (.type T) "__getitem__" = pure (some (.builtin id)) ∧ s.TypeIs v T ∧ wpAny (model X.prog X.w) X.A (getItem v (.ref sl)) (EP X pins σ Q) X.xe s
def tSl (r : V → Option Int → Option Int → Hp → VK → Prop) (te : TE) (tl th : TO) : TE := fun σ H Q => te σ H fun x H1 => tl σ H1 fun l H2 => th σ H2 fun u H3 => r x l u H3 Q
/-- a[lo:hi], any a -/
theorem pe_slice {r : V → Option Int → Option Int → Hp → VK → Prop} (hr : SlR X r) (he : PE X e te) (hl : PO X lo tl) (hu : PO X hi th) : PE X (.Subscript e (.Slice lo hi none p2) pos) (tSl r te tl th) := by
  intro pins s σ H Q I h
  refine Subscript_ (thn (he pins s σ H _ I h) fun v s1 ⟨x, H1, I1, r1, q1⟩ => ?_)
  refine wpAny_Slice (thn (hl pins s1 σ H1 _ I1 q1) fun vl s2 ⟨l, H2, I2, pl, q2⟩ => thn (hu pins s2 σ H2 _ I2 q2) fun vu s3 ⟨u, H3, I3, pu, q3⟩ => ?_)
  rw [evalPart_none]
  refine wpAny_pure ?_
  have I4 : Inv X pins σ H3 { s3 with heap := s3.heap.push { cls := .type "slice", data := .fields #[vl, vu, .none] } } := I3.kept (t' := s3.toks) fun b ob q => Heap.get?_push_of_some _ q
  obtain ⟨T, id, hT, ht, hg⟩ := hr pins { s3 with heap := s3.heap.push { cls := .type "slice", data := .fields #[vl, vu, .none] } } σ H3 x v vl vu l u s3.heap.objs.size Q I4 r1 (Heap.IsSliceOf.new ..) pl pu q3
  show wpAny (model X.prog X.w) X.A (subscriptTail e (.Slice lo hi none p2) v (.ref s3.heap.objs.size)) (EP X pins σ Q) X.xe { s3 with heap := s3.heap.push { cls := .type "slice", data := .fields #[vl, vu, .none] } }
  exact tail_any (ops := [.ref s3.heap.objs.size, v]) ht hT hg (by with_unfolding_all rfl)

/-- the items of xs[lo:hi] -/
def cutV (xs : List V) (lo hi : Option Int) : List V := (xs.drop (HT.sIx xs.length 0 lo)).take (HT.sIx xs.length xs.length hi - HT.sIx xs.length 0 lo)
theorem cutV_length (xs : List V) (lo hi : Option Int) : (cutV xs lo hi).length ≤ xs.length := by
  unfold cutV
  rw [List.length_take, List.length_drop]
  omega
/-! ### t < u, t + u -/
end
end L2

namespace L2
open PySem PySem.Spec PyProof.Rows

/-! ### places -/
/-- the place that an index of any sign means -/
def ixN (n : Nat) (i : Int) : Option Nat := if 0 ≤ i then (if i < n then some i.toNat else none) else if -(n : Int) ≤ i then some (i + n).toNat else none
def atI {α : Type} (xs : List α) (i : Int) : Option α := (ixN xs.length i).bind fun j => xs[j]?
theorem ixN_seq {n : Nat} {i : Int} {j : Nat} (h : ixN n i = some j) : seqIndex? i n = some j ∧ j < n ∧ -(n : Int) ≤ i ∧ i < n := by
  unfold ixN at h
  by_cases h0 : 0 ≤ i
  · rw [if_pos h0] at h
    by_cases h1 : i < n
    · rw [if_pos h1] at h
      have e : i.toNat = j := Option.some.inj h
      exact ⟨by rw [seqIndex_of h0 h1, e], by omega, by omega, h1⟩
    · rw [if_neg h1] at h; cases h
  · rw [if_neg h0] at h
    by_cases h1 : -(n : Int) ≤ i
    · rw [if_pos h1] at h
      have e : (i + n).toNat = j := Option.some.inj h
      exact ⟨by rw [seqIndex_neg (by omega) h1, e], by omega, h1, by omega⟩
    · rw [if_neg h1] at h; cases h
theorem atI_get {α : Type} {xs : List α} {i : Int} {v : α} (h : atI xs i = some v) : ∃ j, seqIndex? i xs.length = some j ∧ xs[j]? = some v ∧ j < xs.length ∧ -(xs.length : Int) ≤ i ∧ i < xs.length := by
  unfold atI at h
  cases e : ixN xs.length i with
  | none => rw [e] at h; cases h
  | some j =>
    rw [e] at h
    obtain ⟨h1, h2, h3, h4⟩ := ixN_seq e
    exact ⟨j, h1, h, h2, h3, h4⟩
theorem atI_nat {α : Type} {xs : List α} {j : Nat} {v : α} (h : xs[j]? = some v) : atI xs (j : Int) = some v := by
  have hj : j < xs.length := (List.getElem?_eq_some_iff.mp h).1
  have e : ixN xs.length (j : Int) = some j := by
    unfold ixN
    rw [if_pos (by omega), if_pos (by omega)]; simp
  unfold atI; rw [e]; exact h
theorem atI_last {α : Type} (xs : List α) (v : α) : atI (xs ++ [v]) (-1) = some v := by
  have hl : (xs ++ [v]).length = xs.length + 1 := by simp
  have e : ixN (xs ++ [v]).length (-1) = some xs.length := by
    unfold ixN
    rw [hl, if_neg (by decide), if_pos (by omega)]
    congr 1
    omega
  unfold atI
  rw [e]
  show (xs ++ [v])[xs.length]? = some v
  simp

/-! ### what may be subscripted -/
/-- what stands as an index of a plain subscript -/
def PlainIx (b : Expr) : Prop := ∀ o i, subscripted b false o i = operate [o, i] (getItem o i)
/-- a subscript by values -/
def IxR (X : Cx) (r : R2) : Prop :=
  ∀ (value slice : Expr) (pins : List (Addr × Obj)) (s : Shared) (σ : St) (H : Hp) (x y : V) (v u : Value) (Q : VK), Inv X pins σ H s → RelV x v → RelV y u → r x y H Q →
    subscripted slice false v u = operate [v, u] (getItem v u) → wpAny (model X.prog X.w) X.A (subscriptTail value slice v u) (EP X pins σ Q) X.xe s
/-- a call of a builtin's method by values: the receiver, the arguments -/
def MtR (X : Cx) (id : String) (r : V → List V → Hp → VK → Prop) : Prop :=
  ∀ (pins : List (Addr × Obj)) (s : Shared) (σ : St) (H : Hp) (x : V) (xs : List V) (v : Value) (us : List Value) (Q : VK), Inv X pins σ H s → RelV x v → Vals xs us → r x xs H Q →
    wpAny (model X.prog X.w) X.A (call (.builtin id) (v :: us)) (EP X pins σ Q) X.xe s
section
variable {X : Cx} {a b : Expr} {ta tb : TE} {pos : Pos}
/-- a[b] -/
theorem pe_ix {r : R2} (hr : IxR X r) (ha : PE X a ta) (hb : PE X b tb) (hs : PlainIx b) : PE X (.Subscript a b pos) (tOp r ta tb) := by
  intro pins s σ H Q I h
  exact Subscript_ (binT ha hb I h fun v u s2 x y H2 I2 rx ry q => hr a b pins s2 σ H2 x y v u Q I2 rx ry q (hs _ _))

def rIxL (K : PySem.W.Frag) : R2 := fun x y H Q => ∃ p xs i v, x = .ref p ∧ y = .int i ∧ SqL K H p xs ∧ atI xs i = some v ∧ Q v H
def rIxT (K : PySem.W.Frag) : R2 := fun x y H Q => ∃ p xs i v, x = .ref p ∧ y = .int i ∧ SqT K H p xs ∧ atI xs i = some v ∧ Q v H
theorem ix_list : IxR X (rIxL X.K) := by
  intro value slice pins s σ H x y v u Q I rx ry h hs
  obtain ⟨p, xs, i, z, rfl, rfl, hq, he, q⟩ := h
  cases rx
  obtain ⟨t, rfl⟩ := ry
  obtain ⟨its, r, pl, hz⟩ := I.list hq
  obtain ⟨j, h1, h2, h3, h4, h5⟩ := atI_get he
  obtain ⟨w, ew, rw'⟩ := r.get h2
  have hl := r.length
  have hn := line63
  have fin : EP X pins σ Q w s := ⟨z, H, I, rw', q⟩
  by_cases h0 : 0 ≤ i
  · have hj : i.toNat = j := by
      rw [seqIndex_of h0 h5] at h1
      exact Option.some.inj h1
    exact item_listR pl.isList h0 (by omega) (by rw [hj]; simpa using ew) fin hs
  · have hj : (i + (its.toArray.size : Int)).toNat = j := by
      rw [seqIndex_neg (by omega) h4] at h1
      rw [List.size_toArray, ← hl]
      exact Option.some.inj h1
    exact subscriptTail_builtinR (x := w) pl.isList.typeIs slot_list_getitem.lookup
      (wpAny_getItem_list_neg (Q := fun r s' => r = w ∧ EP X pins σ Q r s') pl.isList (by omega) (by rw [List.size_toArray] <;> omega) (by omega) (by rw [hj]; simpa using ew) ⟨rfl, fin⟩) hs
theorem ix_tup : IxR X (rIxT X.K) := by
  intro value slice pins s σ H x y v u Q I rx ry h hs
  obtain ⟨p, xs, i, z, rfl, rfl, hq, he, q⟩ := h
  cases rx
  obtain ⟨t, rfl⟩ := ry
  obtain ⟨its, r, pl, hz⟩ := I.tuple hq
  obtain ⟨j, h1, h2, h3, h4, h5⟩ := atI_get he
  obtain ⟨w, ew, rw'⟩ := r.get h2
  have hl := r.length
  have hn := line63
  have fin : EP X pins σ Q w s := ⟨z, H, I, rw', q⟩
  exact subscriptTail_builtinR (x := w) pl.typeIs slot_tuple_getitem.lookup
    (getItem_tuple (j := j) (Q := fun r s' => r = w ∧ EP X pins σ Q r s') pl (by omega) (by omega) (by rw [List.size_toArray, ← hl]; exact h1) (by simpa using ew) ⟨rfl, fin⟩) hs
/-! ### xs[i] = v, any sign -/
/-- the list's object behind a store -/
theorem mapSeq_set (its : List Value) (n j : Nat) (u : Value) : Obj.mapSeq (·.setIfInBounds j u) { cls := .type "list", data := .seq its.toArray n } = { cls := .type "list", data := .seq (its.set j u).toArray n } := by
  simp [Obj.mapSeq]
theorem Inv.lst {pins : List (Addr × Obj)} {σ : St} {H : Hp} {s : Shared} {p : Addr} {xs : List V} (I : Inv X pins σ H s) (h : H p = some (.lst xs)) :
    ∃ (its : List Value) (n : Nat), Vals xs its ∧ s.heap.get? p = some { cls := .type "list", data := .seq its.toArray n } ∧ xs.length ≤ sizeLine := by
  obtain ⟨z, its, n, r, e⟩ := I.hok p _ h
  exact ⟨its, n, r, e, z⟩
/-- the list at p is written by an update of its object -/
theorem Inv.lstUpd {pins : List (Addr × Obj)} {σ : St} {H : Hp} {s : Shared} {p : Addr} {xs ys : List V} {its its' : List Value} {n n' : Nat} {f : Obj → Obj} (I : Inv X pins σ H s) (h : H p = some (.lst xs))
    (ho : s.heap.get? p = some { cls := .type "list", data := .seq its.toArray n }) (hf : f { cls := .type "list", data := .seq its.toArray n } = { cls := .type "list", data := .seq its'.toArray n' }) (r : Vals ys its') (hz : ys.length ≤ sizeLine) (t : Nat) :
    Inv X pins σ (upd H p (.lst ys)) { s with heap := s.heap.update p f, toks := t } := by
  have e : (s.heap.update p f).get? p = some { cls := .type "list", data := .seq its'.toArray n' } := by
    rw [Heap.get?_update_self f ho (by rw [hf] <;> rfl), hf]
  refine I.write (x := p) (e := p) (by rw [h]; trivial) (.inl rfl) (fun b u hb q => (Heap.get?_update_other _ _ (Ne.symm hb)).trans q) ⟨_, e⟩ ?_
  exact ⟨hz, its', n', r, e⟩
def rSetL : V → V → V → Hp → (Hp → Prop) → Prop := fun o i v H Q => ∃ p xs k j, o = .ref p ∧ i = .int k ∧ H p = some (.lst xs) ∧ ixN xs.length k = some j ∧ Q (upd H p (.lst (xs.set j v)))
theorem set_list : PSet X rSetL := by
  intro pins s σ H o i v ov iv u Q I ro ri rv h
  obtain ⟨p, xs, k, j, rfl, rfl, hp, hj, q⟩ := h
  cases ro
  obtain ⟨t, rfl⟩ := ri
  obtain ⟨its, n, r, ho, hz⟩ := I.lst hp
  obtain ⟨h1, h2, h3, h4⟩ := ixN_seq hj
  have hl := r.length
  have hn := line63
  have I' : Inv X pins σ (upd H p (.lst (xs.set j v))) { s with heap := s.heap.update p (Obj.mapSeq (·.setIfInBounds j u)) } :=
    I.lstUpd hp ho (mapSeq_set its n j u) (r.set rv j) (by rw [List.length_set]; exact hz) s.toks
  by_cases h0 : 0 ≤ k
  · have hk : k.toNat = j := by
      rw [seqIndex_of h0 h4] at h1
      exact Option.some.inj h1
    exact PySem.W.ki_setAt ho h0 (by omega) (by rw [List.size_toArray, ← hl]; exact h4) (by rw [hk]; exact ⟨_, I', q⟩)
  · have hk : (k + (its.toArray.size : Int)).toNat = j := by
      rw [seqIndex_neg (by omega) h3] at h1
      rw [List.size_toArray, ← hl]
      exact Option.some.inj h1
    exact PySem.W.ki_setBack ho (by omega) (by rw [List.size_toArray, ← hl]; exact h3) (by omega) (by rw [hk]; exact ⟨_, I', q⟩)

/-! ### slices -/
theorem slice_bounds (lo hi : Option Int) (n : Nat) : (sliceBounds lo hi none n).1 = ((HT.sIx n 0 lo : Nat) : Int) ∧ (sliceBounds lo hi none n).2.1 = ((HT.sIx n n hi : Nat) : Int) ∧ (sliceBounds lo hi none n).2.2 = 1 := by
  refine ⟨?_, ?_, rfl⟩
  · cases lo with
    | none => simp [sliceBounds, HT.sIx]
    | some i =>
      simp only [sliceBounds, HT.sIx, Option.getD_none, show (1 : Int) > 0 by decide, if_true]
      by_cases h : i < 0
      · simp only [h, if_true] <;> omega
      · simp only [h, if_false] <;> omega
  · cases hi with
    | none => simp [sliceBounds, HT.sIx]
    | some i =>
      simp only [sliceBounds, HT.sIx, Option.getD_none, show (1 : Int) > 0 by decide, if_true]
      by_cases h : i < 0
      · simp only [h, if_true] <;> omega
      · simp only [h, if_false] <;> omega
theorem slicePick_cut (its : List Value) (lo hi : Option Int) : slicePick its.toArray lo hi none = ((its.drop (HT.sIx its.length 0 lo)).take (HT.sIx its.length its.length hi - HT.sIx its.length 0 lo)).toArray := by
  obtain ⟨h1, h2, h3⟩ := slice_bounds lo hi its.toArray.size
  unfold slicePick
  rw [h1, h2, h3]
  simp only [sliceRange_one, pick_run, List.size_toArray] <;> rfl
/-- xs[lo:hi] of a list: a new list -/
def rSlL (K : PySem.W.Frag) : V → Option Int → Option Int → Hp → VK → Prop := fun x lo hi H Q => ∃ a xs, x = .ref a ∧ SqL K H a xs ∧ ∀ p, H p = none → Q (.ref p) (upd H p (.lst (cutV xs lo hi)))
theorem sl_list : SlR X (rSlL X.K) := by
  intro pins s σ H x v vl vu lo hi sl Q I rx hs pl pu h
  obtain ⟨a, xs, rfl, hx, q⟩ := h
  cases rx
  obtain ⟨its, r, ht, hz⟩ := I.list hx
  have hlen := r.length
  refine ⟨"list", _, slot_list_getitem.lookup, ht.isList.typeIs, ?_⟩
  refine wpAny_getItem_list_slice ht.isList hs pl pu .none (by simp) ?_ (by rw [List.size_toArray] <;> omega)
  rw [slicePick_cut, ← hlen]
  refine ⟨.ref s.heap.objs.size, _, I.laid (t' := s.toks) (o := .lst (cutV xs lo hi)) (fun b ob q => Heap.get?_push_of_some _ q) (Nat.le_refl _) ?_, rfl, q _ (I.hok.fresh (Nat.le_refl _))⟩
  exact ⟨Nat.le_trans (cutV_length xs lo hi) hz, _, 0, (r.drop (HT.sIx xs.length 0 lo)).take (HT.sIx xs.length xs.length hi - HT.sIx xs.length 0 lo), Heap.get?_push_size _ rfl⟩

/-! ### in, not in: flat items -/
/-! ### len, list(x), tuple(x) of any list or tuple that is read -/
theorem call_len_seq : CallR X (.builtin "len") (fun xs H Q => ∃ p ys, xs = [.ref p] ∧ (SqL X.K H p ys ∨ SqT X.K H p ys) ∧ Q (.int ys.length) H) := by
  intro pins s σ H xs us Q I r h
  obtain ⟨p, ys, rfl, hq, q⟩ := h
  obtain ⟨u, rfl, rx⟩ := vals1 r
  cases rx
  have hn := line63
  rcases hq with hq | hq
  · obtain ⟨its, r', pl, hz⟩ := I.list hq
    have hlen := r'.length
    exact Calls.call_len_list pl.isList (by simp only [List.size_toArray] <;> omega) ⟨.int ys.length, H, I.tok _, ⟨s.toks + 1, by rw [List.size_toArray, hlen]⟩, q⟩
  · obtain ⟨its, r', pl, hz⟩ := I.tuple hq
    have hlen := r'.length
    exact len_tuple pl (by simp only [List.size_toArray] <;> omega) ⟨.int ys.length, H, I.tok _, ⟨s.toks + 1, by rw [List.size_toArray, hlen]⟩, q⟩
theorem CallR.or {f : Value} {r r' : List V → Hp → VK → Prop} (h : CallR X f r) (h' : CallR X f r') : CallR X f (fun xs H Q => r xs H Q ∨ r' xs H Q) := by
  intro pins s σ H xs us Q I rs q
  rcases q with q | q
  · exact h pins s σ H xs us Q I rs q
  · exact h' pins s σ H xs us Q I rs q
theorem call_list_of : CallR X (.type "list") (fun xs H Q => ∃ p ys, xs = [.ref p] ∧ (SqL X.K H p ys ∨ SqT X.K H p ys) ∧ ∀ l, H l = none → Q (.ref l) (upd H l (.lst ys))) := by
  intro pins s σ H xs us Q I r h
  obtain ⟨p, ys, rfl, hq, q⟩ := h
  obtain ⟨u, rfl, rx⟩ := vals1 r
  cases rx
  have fin : ∀ (its : List Value), Vals ys its → ys.length ≤ sizeLine → ∀ (h' : Heap) (c' : Nat), (∀ b o', s.heap.get? b = some o' → h'.get? b = some o') →
      h'.get? s.heap.objs.size = some { cls := .type "list", dict := none, data := .seq its.toArray c', slots := #[] } → EP X pins σ Q (.ref s.heap.objs.size) { s with heap := h' } := fun its r' hz h' c' kp e =>
    ⟨.ref s.heap.objs.size, _, I.laid (t' := s.toks) kp (Nat.le_refl _) (show ObjOk X.prog X.w _ h' _ (.lst ys) from ⟨hz, its, c', r', e⟩), rfl, q _ (I.hok.fresh (Nat.le_refl _))⟩
  rcases hq with hq | hq
  · obtain ⟨its, r', pl, hz⟩ := I.list hq
    have hlen := r'.length
    obtain ⟨o, ho, hc, n, hd⟩ := pl.isList
    exact call_list_seq p (.inl rfl) ho hc hd (fun h' c' kp e => fin its r' hz h' c' kp e) (by simp only [List.size_toArray] <;> omega)
  · obtain ⟨its, r', pl, hz⟩ := I.tuple hq
    have hlen := r'.length
    obtain ⟨o, ho, hc, n, hd⟩ := pl
    exact call_list_seq p (.inr rfl) ho hc hd (fun h' c' kp e => fin its r' hz h' c' kp e) (by simp only [List.size_toArray] <;> omega)
/-! ### the call of a builtin's method: o.m(..) -/
/-- the value is of that builtin type -/
def tyV (K : PySem.W.Frag) (T : String) (x : V) (H : Hp) : Prop := match x with
  | .str _ => T = "str"
  | .int _ => T = "int"
  | .ref p => (T = "list" ∧ ∃ xs, SqL K H p xs) ∨ (T = "tuple" ∧ ∃ o, K.lookup p = some o ∧ o.cls = .type "tuple" ∧ o.dict = none) ∨
      (T = "dict" ∧ ((∃ kvs, H p = some (.dK kvs)) ∨ ∃ kvs, H p = some (.dT kvs))) ∨ (T = "set" ∧ ∃ S n, H p = some (.set S n))
  | _ => False
theorem tyV_is {pins : List (Addr × Obj)} {σ : St} {H : Hp} {s : Shared} {T : String} {x : V} {v : Value} (I : Inv X pins σ H s) (r : RelV x v) (ty : tyV X.K T x H) :
    s.TypeIs v T ∧ ∀ a, v = .ref a → ∃ ob, s.heap.get? a = some ob ∧ ob.dict = none := by
  cases x with
  | str z =>
    obtain ⟨t, rfl⟩ := r
    cases (show T = "str" from ty)
    exact ⟨typeIs_str s z t, fun _ e => nomatch e⟩
  | int i =>
    obtain ⟨t, rfl⟩ := r
    cases (show T = "int" from ty)
    exact ⟨typeIs_int s i t, fun _ e => nomatch e⟩
  | ref p =>
    cases r
    rcases ty with ⟨rfl, xs, hq⟩ | ⟨rfl, o, hk, hc, hd⟩ | ⟨rfl, hk⟩ | ⟨rfl, S, n, hk⟩
    · obtain ⟨its, _, pl, _⟩ := I.list hq
      refine ⟨pl.isList.typeIs, fun a e => ?_⟩
      cases e
      obtain ⟨o, n, e, c, hd, _⟩ := pl
      exact ⟨o, e, hd⟩
    · refine ⟨⟨o, I.kIn p o hk, hc⟩, fun a e => ?_⟩
      cases e
      exact ⟨o, I.kIn _ o hk, hd⟩
    · have z : ∃ o, s.heap.get? p = some o ∧ o.ExactDict := by
        rcases hk with ⟨kvs, hk⟩ | ⟨kvs, hk⟩
        · obtain ⟨_, _, _, _, o, _, _, e, ex, _⟩ := I.hok p _ hk
          exact ⟨o, e, ex⟩
        · obtain ⟨_, _, _, _, o, _, _, e, ex, _⟩ := I.hok p _ hk
          exact ⟨o, e, ex⟩
      obtain ⟨o, e, ex⟩ := z
      refine ⟨⟨o, e, ex.1⟩, fun a e2 => ?_⟩
      cases e2
      exact ⟨o, e, ex.2.1⟩
    · obtain ⟨o, _, _, _, e, ex, _⟩ := I.hok p _ hk
      refine ⟨⟨o, e, ex.1⟩, fun a e2 => ?_⟩
      cases e2
      exact ⟨o, e, ex.2.1⟩
  | _ => exact False.elim ty
def tBM (K : PySem.W.Frag) (T : String) (r : V → List V → Hp → VK → Prop) (to : TE) (t : TA) : TE := fun σ H Q => to σ H fun x H1 => tyV K T x H1 ∧ t σ H1 fun xs H2 => r x xs H2 Q
variable {o e : Expr} {es : List Expr} {to : TE} {t : TA} {name : Str} {apos cpos : Pos} {T id : String} {r : V → List V → Hp → VK → Prop}
theorem pe_bm (pa : PlainAttrs T) (slot : Slot T name id) (hty : typeOf (.builtin id) = pure (.type "method_descriptor")) (hm : MtR X id r) (ho : PE X o to) (ha : PA X (e :: es) t)
    (hbase : attributeBase o name X.env (eval o X.env) = eval o X.env := by rfl)
    (hfew : ((backTo cpos (starEach (e :: es) X.env)).all (fun x => !x.1) && (backToKw cpos (keywordEach [] X.env)).all (fun x => x.1.isSome)
      && decide ((e :: es).length + ([] : List Keyword).length + (if ([] : List Keyword).isEmpty then 0 else 1) < 30)) = true := by rfl)
    (hline : (apos.endLine == cpos.line) = true := by rfl) (hs : starEach (e :: es) X.env = (false, eval e X.env) :: starEach es X.env := by rfl) (hplain : (backTo cpos (starEach es X.env)).any (·.1) = false := by rfl) :
    PE X (.Call (.Attribute o name apos) (e :: es) [] cpos) (tBM X.K T r to t) := by
  intro pins s σ H Q I h
  refine wpAny_Call_method_late hbase hfew hline rfl (thn (ho pins s σ H _ I h) fun v s1 ⟨x, H1, I1, r1, ty, q1⟩ => ?_)
  obtain ⟨h1, h2⟩ := tyV_is I1 r1 ty
  refine ⟨T, id, pa, slot, hty, h1, h2, ?_⟩
  have hA := ha cpos pins s1 σ H1 _ I1 q1
  rw [hs] at hA ⊢
  refine Calls.callWith_builtin (by show (false || (backTo cpos (starEach es X.env)).any (·.1)) = false; rw [hplain] <;> rfl) (Calls.evalArgs_plain ?_)
  exact thn hA fun us s2 ⟨vs, H2, I2, r2, q2⟩ => hm pins s2 σ H2 x vs v us Q I2 r1 r2 q2
/- xs.append(e), list.index on a module's tuple .. are MtR facts of 06m -/
end
end L2

namespace L2
open PySem PySem.Spec PyProof.Rows

def MtM (X : Cx) (id : String) (r : V → List V → Hp → VK → Prop) : Prop :=
  ∀ (pins : List (Addr × Obj)) (s : Shared) (σ : St) (H : Hp) (x : V) (xs : List V) (v : Value) (us : List Value) (Q : VK), Inv X pins σ H s → RelV x v → Vals xs us → r x xs H Q →
    wpAny (model X.prog X.w) X.A (call (.builtin id) (v :: us)) (EP X pins σ Q) X.xe s

/-! ### lists of values -/
theorem Vals.one : ∀ {x : V} {us : List Value}, Vals [x] us → ∃ u, us = [u] ∧ RelV x u
  | _, _, .cons r .nil => ⟨_, rfl, r⟩
theorem Vals.rep {xs : List V} {us : List Value} (h : Vals xs us) : ∀ k : Nat, Vals (List.replicate k xs).flatten (List.replicate k us).flatten
  | 0 => .nil
  | k + 1 => by
    rw [List.replicate_succ, List.replicate_succ, List.flatten_cons, List.flatten_cons]
    exact Vals.append h (Vals.rep h k)
theorem foldl_rep (its : List Value) : ∀ (k : Nat) (acc : List Value),
    List.foldl (fun x1 x2 => x1 ++ x2) acc.toArray (List.replicate k its.toArray) = (acc ++ (List.replicate k its).flatten).toArray
  | 0, acc => by simp
  | k + 1, acc => by
    have e : acc.toArray ++ its.toArray = (acc ++ its).toArray := by simp
    have e2 : (acc ++ its) ++ (List.replicate k its).flatten = acc ++ (List.replicate (k + 1) its).flatten := by
      rw [List.replicate_succ, List.flatten_cons, List.append_assoc]
    rw [← e2, ← foldl_rep its k (acc ++ its), ← e, List.replicate_succ, List.foldl_cons]

section
variable {X : Cx} {pins : List (Addr × Obj)} {σ : St} {H : Hp} {s : Shared} {l b : Addr} {xs ys zs : List V}

/-! ### the two steps: a tracked list is rewritten, a new list is laid -/
theorem Inv.lset {its its' : List Value} {n : Nat} {f : Array Value → Array Value} {t' : Nat} (I : Inv X pins σ H s) (hH : H l = some (.lst xs))
    (e : s.heap.get? l = some { cls := .type "list", data := .seq its.toArray n }) (hf : f its.toArray = its'.toArray) (hv : Vals ys its') (hz : ys.length ≤ sizeLine) :
    Inv X pins σ (upd H l (.lst ys)) { s with heap := s.heap.update l (Obj.mapSeq f), toks := t' } := by
  have q := PySem.IsL.update e f
  rw [hf] at q
  refine I.write (x := l) (e := l) (by rw [hH]; exact trivial) (.inl rfl) (fun b' u hb hu => (Heap.get?_update_other s.heap (Obj.mapSeq f) (Ne.symm hb)).trans hu) ⟨_, q⟩ ?_
  exact ⟨hz, its', _, hv, q⟩
theorem Inv.lnew {its : List Value} {t' : Nat} (I : Inv X pins σ H s) (hv : Vals ys its) (hz : ys.length ≤ sizeLine) :
    Inv X pins σ (upd H s.heap.objs.size (.lst ys)) { s with heap := s.heap.push { cls := .type "list", data := .seq its.toArray }, toks := t' } :=
  I.laid (fun _ _ q => Heap.get?_push_of_some _ q) (Nat.le_refl _) ⟨hz, its, 0, hv, Heap.get?_push_size _ rfl⟩
theorem Inv.fresh (I : Inv X pins σ H s) : H s.heap.objs.size = none := I.hok.fresh (Nat.le_refl _)
theorem Inv.lstM (I : Inv X pins σ H s) (hH : H l = some (.lst xs)) : xs.length ≤ sizeLine ∧ ∃ (its : List Value) (n : Nat), Vals xs its ∧ xs.length = its.length ∧ s.heap.get? l = some { cls := .type "list", data := .seq its.toArray n } := by
  obtain ⟨z, its, n, r, e⟩ := I.hok l _ hH
  exact ⟨z, its, n, r, r.length, e⟩

theorem notLongL {n : Nat} (h : n ≤ sizeLine) : Builtin.List.listTooLong n = false := by
  unfold Builtin.List.listTooLong
  exact decide_eq_false (by omega)
end

section
variable {X : Cx}

/-! ### methods -/
def rAppend : V → List V → Hp → VK → Prop := fun x vs H Q => ∃ l xs y, x = .ref l ∧ vs = [y] ∧ H l = some (.lst xs) ∧ xs.length < sizeLine ∧ Q .non (upd H l (.lst (xs ++ [y])))
theorem mt_append : MtM X "list.append" rAppend := by
  intro pins s σ H x vs v us Q I rx rv h
  obtain ⟨l, xs, y, rfl, rfl, hH, hz, q⟩ := h
  cases rx
  obtain ⟨u, rfl, ru⟩ := rv.one
  obtain ⟨z, its, n, r, hl, e⟩ := I.lstM hH
  refine call_meets F.slot_list_append ⟨_, e, rfl⟩ F.entry_list_append (F.args_list_append_2 _ _) (PySem.list_append l its.toArray n u (by rw [List.size_toArray]; omega)) ⟨e, ?_⟩
  refine ⟨.non, _, I.lset (its' := its ++ [u]) hH e (by simp) (r.append (.cons ru .nil)) ?_, rfl, q⟩
  rw [List.length_append, List.length_singleton]
  omega

def rExtend : V → List V → Hp → VK → Prop := fun x vs H Q => ∃ l b xs zs, x = .ref l ∧ vs = [.ref b] ∧ H l = some (.lst xs) ∧ H b = some (.lst zs) ∧ xs.length + zs.length ≤ sizeLine ∧ Q .non (upd H l (.lst (xs ++ zs)))
theorem mt_extend : MtM X "list.extend" rExtend := by
  intro pins s σ H x vs v us Q I rx rv h
  obtain ⟨l, b, xs, zs, rfl, rfl, hH, hB, hz, q⟩ := h
  cases rx
  obtain ⟨u, rfl, ru⟩ := rv.one
  cases ru
  obtain ⟨z, its, n, r, hl, e⟩ := I.lstM hH
  obtain ⟨z2, its2, n2, r2, hl2, e2⟩ := I.lstM hB
  have hsz : its.toArray.size + its2.toArray.size ≤ sizeLine := by rw [List.size_toArray, List.size_toArray]; omega
  have hlong : ¬ (!its.toArray.isEmpty && Builtin.List.listTooLong (its.toArray.size + its2.toArray.size)) = true := by
    rw [notLongL hsz, Bool.and_false]
    exact Bool.false_ne_true
  refine call_meets F.slot_list_extend ⟨_, e, rfl⟩ F.entry_list_extend (F.args_list_extend_2 _ _)
    (AutoSeq1.list_extend_list_list_0 l its.toArray n b its2.toArray n2 hlong (by rw [List.size_toArray]; omega) (by omega)) ⟨e, e2, ?_⟩
  refine ⟨.non, _, I.lset (its' := its ++ its2) hH e (by simp) (r.append r2) ?_, rfl, q⟩
  rw [List.length_append]
  omega

/-! ### list + list, list += list, list * int -/
def rCat : R2 := fun x y H Q => ∃ l b xs zs, x = .ref l ∧ y = .ref b ∧ H l = some (.lst xs) ∧ H b = some (.lst zs) ∧ xs.length + zs.length ≤ sizeLine ∧ ∀ p, H p = none → Q (.ref p) (upd H p (.lst (xs ++ zs)))
theorem op_cat : OpR X (binaryOp .Add) rCat := by
  intro pins s σ H x y v u Q I rx ry h
  obtain ⟨l, b, xs, zs, rfl, rfl, hH, hB, hz, q⟩ := h
  cases rx
  cases ry
  obtain ⟨z, its, n, r, hl, e⟩ := I.lstM hH
  obtain ⟨z2, its2, n2, r2, hl2, e2⟩ := I.lstM hB
  refine PySem.P.add_list e e2 ?_ (by rw [List.size_toArray, List.size_toArray]; omega)
  have ea : its.toArray ++ its2.toArray = (its ++ its2).toArray := by simp
  rw [ea]
  exact ⟨.ref _, _, I.lnew (t' := s.toks) (r.append r2) (by rw [List.length_append]; omega), rfl, q _ I.fresh⟩
/-- a list times an int (a negative one is nothing) -/
def rRep : R2 := fun x y H Q => ∃ l k xs, x = .ref l ∧ y = .int k ∧ H l = some (.lst xs) ∧ -(2 ^ 63) ≤ k ∧ k < 2 ^ 63 ∧ xs.length * k.toNat ≤ sizeLine ∧
  ∀ p, H p = none → Q (.ref p) (upd H p (.lst (List.replicate k.toNat xs).flatten))
theorem len_rep {α : Type} (xs : List α) (k : Nat) : (List.replicate k xs).flatten.length = k * xs.length := by
  induction k with
  | zero => simp
  | succ k ih => rw [List.replicate_succ, List.flatten_cons, List.length_append, ih, Nat.succ_mul, Nat.add_comm]
theorem op_rep : OpR X (binaryOp .Mult) rRep := by
  intro pins s σ H x y v u Q I rx ry h
  obtain ⟨l, k, xs, rfl, rfl, hH, h1, h2, hz, q⟩ := h
  cases rx
  obtain ⟨t, rfl⟩ := ry
  obtain ⟨z, its, n, r, hl, e⟩ := I.lstM hH
  have hlen : its.toArray.size * k.toNat ≤ sizeLine := by rw [List.size_toArray, ← hl]; exact hz
  have hcap : ¬ its.toArray.size * k.toNat > (2 ^ 63 - 1) / 8 := by
    have : (sizeLine : Nat) ≤ (2 ^ 63 - 1) / 8 := by decide
    omega
  have hfit : ¬ (!Builtin.List.listFitsIndex k) = true := by
    rw [fitsIndex_both h1 h2]
    exact Bool.false_ne_true
  have hlong : ¬ Builtin.List.listTooLong (its.toArray.size * k.toNat) = true := by
    rw [notLongL hlen]
    exact Bool.false_ne_true
  have hnew : List.foldl (fun x1 x2 => x1 ++ x2) #[] (List.replicate (if its.toArray.isEmpty = true then 0 else k.toNat) its.toArray) = (List.replicate k.toNat its).flatten.toArray := by
    have f0 : ∀ m : Nat, List.foldl (fun x1 x2 => x1 ++ x2) #[] (List.replicate m its.toArray) = (List.replicate m its).flatten.toArray := fun m => by
      have := foldl_rep its m []
      rw [List.nil_append] at this
      exact this
    rw [f0]
    cases its with
    | nil => simp
    | cons a r' => rw [if_neg (by simp)]
  refine wpAny_binaryOp_repeat_ref (T := "list") (U := "int") (by decide) ⟨_, e, rfl⟩ (fun s' => typeIs_int s' k t) noFill_list_mul F.fills_int_mul F.slot_int_rmul repeat_list F.slot_int_index.lookup
    (call_meets F.slot_int_rmul (typeIs_int s k t) F.entry_int_rmul (F.args_int_rmul_2 _ _) (int___rmul___int_list k t l its.toArray n)
      ⟨e, rfl, ⟨_, e, rfl⟩, call_meets F.slot_list_mul ⟨_, e, rfl⟩ F.entry_list_mul (F.args_list_mul_2 _ _) (AutoListH.list___mul___list_int_3 l its.toArray n k t hfit hcap hlong) ⟨e, ?_⟩⟩)
  rw [hnew]
  exact ⟨.ref _, _, I.lnew (t' := s.toks) (r.rep k.toNat) (by rw [len_rep, Nat.mul_comm]; exact hz), rfl, q _ I.fresh⟩

/-! ### del xs[i] -/
end

/-! ### xs[a:b] = ys -/
section
variable {prog : Program} {w : World} {A : Around} {E : Value → Shared → Prop} {s : Shared}
end

section
variable {X : Cx}
end
end L2

namespace Att
open PySem PySem.W PySem.Calls PyProof.Rows

/-! ### the script -/
theorem ints_of_wellAll {P : Params} {h : Heap} : ∀ (ns : List Int) (vs : List Value), WellAll P h vs (ns.map WData.int) → IntsAre vs ns := by
  intro ns
  induction ns with
  | nil =>
    intro vs w
    rw [List.map_nil] at w
    cases w
    exact .nil
  | cons n ns ih =>
    intro vs w
    rw [List.map_cons] at w
    cases w with
    | cons a b =>
      cases a
      exact .cons _ _ (ih _ b)

theorem script_of {l : OpenLaw} {n : Nat} (hn : l.most = some n) {P : Params} {h : Heap} {args : List WData} {vals : List Value}
    (hpre : l.row.toRowW.claim.pre args = true) (hwl : WellAll P h vals args) :
    ∃ a vs ns, vals = [Value.ref a] ∧ args = [WData.list (ns.map WData.int)] ∧ h.get? a = some { cls := .type "list", data := .seq vs.toArray } ∧ IntsAre vs ns ∧ ns.length ≤ n := by
  have hsh : WShape.hasAll [] args [.list .int] = true := (pre_splitW hpre).1
  have hc : l.pre.holds [] { args := args } = true := (pre_splitW hpre).2
  obtain ⟨d, r, rfl, h1, h2⟩ := hasAllW_cons hsh
  obtain rfl := hasAllW_nil h2
  obtain ⟨xs, rfl, h3⟩ := hasW_list h1
  obtain ⟨ns, rfl⟩ := items_int h3
  have hlen : ns.length ≤ n := by
    unfold OpenLaw.pre at hc
    have h4 : (WTm.not (.lt (.lit (.int (n : Int))) (.len (.arg 0)))).holds [] { args := [.list (ns.map .int)] } = true := by
      have h4 := (holds_andW hc).1
      rw [hn] at h4
      exact h4
    have h5 := condW_of h4 (w_not (w_lt w_lit (w_len_list (w_arg rfl))))
    rw [List.length_map] at h5
    refine Nat.le_of_not_lt fun q => ?_
    have q' : (n : Int) < ((ns.length : Nat) : Int) := by omega
    first
      | (rw [decide_eq_true q'] at h5; exact absurd h5 (by decide))
      | (simp at h5; omega)
  cases hwl with
  | cons w1 w2 =>
    cases w2
    cases w1 with
    | list ho hall => exact ⟨_, _, ns, rfl, rfl, ho, ints_of_wellAll ns _ hall, hlen⟩

theorem post_true (l : OpenLaw) (args : List WData) : l.row.toRowW.claim.post args (.bool true) args = true :=
  postW_of (r := l.row.toRowW) (X := (true == true))
    (show WShape.has [] (.bool true) .bool = true by first | rfl | decide | simp [WShape.has, WShape.arms, WShape.armsAll])
    (show (WTm.eq .res (.lit (.bool true))).value [] { args := args, res := some (.bool true), after := args } = some (.bool (true == true)) from w_eq_bool (w_res rfl) w_lit) rfl

/-! ### the attachment: holds_open's last premise (the goal 'hc' behind k_head) from a wpAny of the law's body -/
/-- the same from a codeAny of the CALL (for a layer whose function contracts speak of calls) -/
theorem attach_call {l : OpenLaw} {n : Nat} {q : Program} {loose : List Str} {XP : (Str → Option Value) → Heap → Prop} {YP : World → Heap → Prop} {d : DefRec}
    (hn : l.most = some n) (hdf : d.params.defaults = [])
    (call : ∀ (w : World) (s₀ s₁ : Shared) (mg mb : Str → Option Value) (fa : Addr) (o : Obj) (pm cd doc : Value) (a : Addr) (vs : List Value) (ns : List Int),
      Ground q loose [] XP w s₀ mg mb s₁.heap → YP w s₁.heap →
      s₁.heap.get? fa = some o → o.data = .func (docDef d.name d.params d.body d.scope pm cd doc) → s₁.heap.CodeRec cd d.name → mg d.name = some (.ref fa) →
      s₁.heap.get? a = some { cls := .type "list", data := .seq vs.toArray } → IntsAre vs ns → ns.length ≤ n → s₁.gens = #[] →
      codeAny (model l.prog w) callerA (.call (.ref fa) ⟨[.ref a], []⟩) (fun r s' => r = .ok (.ret (.bool true)) ∧ OldK s₁.heap s'.heap ∧ s'.os = s₁.os ∧ AllBare s'.gens) s₁) :
    WalkO q loose XP YP l.row.toRowW d [] (fun f vs => PySem.call f vs) := by
  intro w s₀ s₁ mg mb G Y fa o pm cd doc dV kV ho hd hcd hD hmg hg args vals as hpre hlay hrd hwl hlo
  obtain rfl : dV = .none := Dflts.none hD hdf
  obtain rfl : kV = .none := Dflts.noKw hD
  obtain ⟨a, vs, ns, rfl, rfl, hobj, hints, hlen⟩ := script_of hn hpre hwl
  refine enter_call (codeAny_mono (call w s₀ s₁ mg mb fa o pm cd doc a vs ns G Y ho (fd_plain hd) hcd hmg hobj hints hlen hg) fun r s' hq => ?_)
  obtain ⟨rfl, h2, h3, h4⟩ := hq
  exact ⟨.inl ⟨.bool true, .bool true, [], rfl, fun _ => rfl, .bool true, post_true l _, fun _ => ⟨List.Pairwise.nil, fun _ hm => (nomatch hm)⟩⟩, h2, h3, h4⟩

/-! ### rules over ANY heap (no ledger) from facts about the written part K: the library's own take a ledger (News) for what they write -/
section
variable {prog : Program} {w : World} {A : Around} {E : Value → Shared → Prop} {s : Shared} {K : Frag}

/-! the whole heap as the ledger: makes every rule that writes through a ledger a rule over any heap -/
end
end Att

namespace L2
open PySem PySem.Spec PyProof.Rows

theorem vals_ints : ∀ {vs : List Value} {ns : List Int}, IntsAre vs ns → Vals (ns.map V.int) vs
  | _, _, .nil => .nil
  | _, _, .cons n t h => .cons ⟨t, rfl⟩ (vals_ints h)

/-- nothing is tracked but the script, known to the object (or it is an object of the module) -/
def Only (H : Hp) : Prop := ∀ b, H b = none ∨ ∃ o xs, H b = some (.frz o (.lst xs))

/-- THE HEAD: the law's promise, at the heap behind the top. F, the promise of the law's def, may use that base is part of the heap (so K.In base, base.Ns mainGlobals mg stand in Mod) -/
theorem law_call {P : Program} {w : World} {K : PySem.W.Frag} {mg mb : Str → Option Value} {CX : CXT} {k : Nat} {fa a : Addr} {fd : FuncData} {x : Str} {sp : Sp} {s₁ : Shared} {vs : List Value} {ns : List Int}
    (KX : K.In s₁.heap) (hns : s₁.heap.Ns mainGlobals mg) (hb : s₁.heap.Ns builtinsNs mb) (hbb : ∀ x : Str, x ≠ "__name__" → mb x = bootBuiltins x) (hlim : s₁.heap.NoLimit) (hg : s₁.gens = #[])
    (ha : s₁.heap.get? a = some { cls := .type "list", data := .seq vs.toArray }) (hi : IntsAre vs ns) (hl : ns.length ≤ sizeLine) (hr : Room k callerA)
    (F : ∀ base : Heap, K.In base → base.Ns mainGlobals mg → FnOk P w K mg base CX k fa fd [x] sp) (hbind : ∀ (s : Shared) (u : Value), BindsTo s fd ⟨[u], []⟩ [(x, u)])
    (hsp : ∀ H : Hp, Only H → SqL K H a (ns.map V.int) → sp [.ref a] H (fun v _ => v = .bl true) fun _ _ _ => False)
    (hCX : ∀ H e s', CX [] H s₁ (fun _ _ _ => False) e s' → False) :
    codeAny (model P w) callerA (.call (.ref fa) ⟨[.ref a], []⟩) (fun r s' => r = .ok (.ret (.bool true)) ∧ OldK s₁.heap s'.heap ∧ s'.os = s₁.os ∧ AllBare s'.gens) s₁ := by
  have rv := vals_ints hi
  have lenV := hi.length
  -- from an abstract heap in which nothing but the script may be tracked
  have core : ∀ H : Hp, Only H → SqL K H a (ns.map V.int) → HOk P w H s₁.heap → (∀ b, H b ≠ none → b = a) → (H a ≠ none → K.lookup a = none) →
      codeAny (model P w) callerA (.call (.ref fa) ⟨[.ref a], []⟩) (fun r s' => r = .ok (.ret (.bool true)) ∧ OldK s₁.heap s'.heap ∧ s'.os = s₁.os ∧ AllBare s'.gens) s₁ := by
    intro H hO hS hok hA hK
    have base_of : ∀ {b : Addr} {o : Obj}, s₁.heap.get? b = some o → H b = none → (hidT s₁.heap H).get? b = some o := fun e n => hidT_get e n
    have noA : ∀ {b : Addr} {o : Obj} {es : Array DictEntry} {ep : Nat}, s₁.heap.get? b = some o → o.data = .dict es ep → H b = none := fun {b o es ep} e d => by
      cases q : H b with
      | none => rfl
      | some u =>
        have e' : b = a := hA b (by rw [q]; simp)
        subst e'
        rw [ha] at e; cases e
        have d' : Data.seq vs.toArray _ = Data.dict es ep := d
        cases d'
    have nsK : ∀ {b : Addr} {m : Str → Option Value}, s₁.heap.Ns b m → (hidT s₁.heap H).Ns b m := fun {b m} ⟨o, es, ep, e, d, r⟩ => ⟨o, es, ep, base_of e (noA e d), d, r⟩
    have hKb : K.In (hidT s₁.heap H) := fun b o e => base_of (KX b o e) (by
      cases q : H b with
      | none => rfl
      | some u =>
        have e' : b = a := hA b (by rw [q]; simp)
        subst e'
        rw [hK (by rw [q]; simp)] at e; cases e)
    have hM : Mod K mg (hidT s₁.heap H) := ⟨hKb, nsK hns, ⟨mb, nsK hb, hbb⟩, let ⟨mc, h1, h2⟩ := hlim; ⟨mc, nsK h1, h2⟩⟩
    have e0 : Env0 P w K mg (hidT s₁.heap H) callerA [] s₁ H := ⟨rfl, hM, fun b o e => of_hidT e, Nat.le_of_eq (hidT_size _ _), trivial, fun b hb => absurd (show b ∈ ([] : List Addr) from hb) (by simp), hok, .of_eq hg⟩
    refine codeAny_mono ((F _ hKb (nsK hns)).run callerA [] s₁ H ⟨[.ref a], []⟩ [.ref a] [.ref a] _ _ hr e0 (hbind s₁ (.ref a)) (.cons rfl .nil) (hsp H hO hS)) fun r s' h => ?_
    cases r with
    | error e => exact (hCX H e s' h).elim
    | ok fl =>
      cases fl with
      | next => exact False.elim h
      | brk => exact False.elim h
      | cont => exact False.elim h
      | ret u =>
        obtain ⟨v, H', os, bare, un, hok', r', q⟩ := h
        have q' : v = .bl true := q
        subst q'
        obtain rfl : u = Value.bool true := r'
        refine ⟨rfl, OldK.of_keep fun b o e => ?_, os, bare⟩
        cases q : H b with
        | none => exact un.keep b o e q (by intro z; exact absurd (show b ∈ ([] : List Addr) from z) (by simp)) (by simp)
        | some u =>
          rcases hO b with z | ⟨ob, xs, z⟩
          · rw [q] at z; cases z
          · have z2 := un.frzs b ob _ z
            obtain ⟨e1, _⟩ := hok b _ z
            obtain ⟨e2, _⟩ := hok' b _ z2
            rw [e] at e1; cases e1
            exact e2
  cases hk : K.lookup a with
  | some o =>
    -- the script is one of the module's own objects
    have e := KX a o hk
    rw [ha] at e
    cases e
    refine core (fun _ => none) (fun _ => .inl rfl) (.inr ⟨_, vs.toArray, _, hk, rfl, rfl, rfl, by rw [List.size_toArray, lenV]; exact hl, by simpa using rv⟩) (fun b u z => by have z' : (none : Option HO) = some u := z; cases z') (fun b z => absurd rfl z) fun z => absurd rfl z
  | none =>
    refine core (fun b => if b = a then some (.frz { cls := .type "list", data := .seq vs.toArray } (.lst (ns.map V.int))) else none) (fun b => ?_) (.inl (.inr ⟨{ cls := .type "list", data := .seq vs.toArray }, if_pos rfl⟩)) (fun b u z => ?_) (fun b z => ?_) fun _ => hk
    · by_cases hb : b = a
      · exact .inr ⟨_, _, if_pos hb⟩
      · exact .inl (if_neg hb)
    · by_cases hb : b = a
      · have z' := (if_pos hb).symm.trans z
        cases z'
        subst hb
        exact ⟨ha, by rw [List.length_map]; exact hl, vs, _, rv, ha⟩
      · have z' := (if_neg hb).symm.trans z
        cases z'
    · by_cases hb : b = a
      · exact hb
      · exact absurd (if_neg hb) z
end L2

namespace L2
open PySem PySem.Spec PyProof.Rows

abbrev KOf {K : PySem.W.Frag} {h : Heap} (_ : K.In h) : PySem.W.Frag := K

/-- the goal that k_head leaves (case hc), from the law's promise. F gives the function object fd (K's own) once, then the promise over every base -/
theorem walk_of {l : PySem.W.OpenLaw} {n k : Nat} {q : Program} {loose : List Str} {XP : (Str → Option Value) → Heap → Prop} {YP : World → Heap → Prop} {d : DefRec} {K : Params → PySem.W.Frag} {CX : World → CXT} {sp : World → Sp} {x : Str}
    (hn : l.most = some n) (hn2 : n ≤ sizeLine) (hdf : d.params.defaults = []) (hr : Room k callerA)
    (hY : ∀ (w : World) (h : Heap), YP w h → (K w.params).In h)
    (F : ∀ (w : World) (mg : Str → Option Value) (fa : Addr) (h : Heap), (K w.params).In h → h.Ns mainGlobals mg → mg d.name = some (.ref fa) →
      ∃ fd : FuncData, (∀ (s : Shared) (u : Value), BindsTo s fd ⟨[u], []⟩ [(x, u)]) ∧
        ∀ base : Heap, (K w.params).In base → base.Ns mainGlobals mg → FnOk l.prog w (K w.params) mg base (CX w) k fa fd [x] (sp w))
    (hsp : ∀ (w : World) (H : Hp) (a : Addr) (ns : List Int), ns.length ≤ n → Only H → SqL (K w.params) H a (ns.map V.int) → sp w [.ref a] H (fun v _ => v = .bl true) fun _ _ _ => False)
    (hCX : ∀ (w : World) (H : Hp) (s : Shared) (e : Value) (s' : Shared), CX w [] H s (fun _ _ _ => False) e s' → False) :
    PySem.W.WalkO q loose XP YP l.row.toRowW d [] (fun f vs => PySem.call f vs) := by
  refine Att.attach_call hn hdf fun w s₀ s₁ mg mb fa o pm cd doc a vs ns G Y ho hd hcd hmg hobj hints hlen hg => ?_
  have KX := hY w _ Y
  obtain ⟨fd, hb, hF⟩ := F w mg fa _ KX G.T.g hmg
  exact law_call KX G.T.g G.T.b G.T.builtins G.T.nolimit hg hobj hints (Nat.le_trans hlen hn2) hr hF hb (fun H hO hS => hsp w H a ns hlen hO hS) fun H e s' => hCX w H s₁ e s'
end L2

/- THE LAST THEOREM (shape; LID, My.* are yours):
   My.Adr: a structure of the addresses that your layer names (classes, functions); My.Txt K t: a structure (Prop) of the equations over K;
   My.txt_mk : {K} {implicit addresses ..} (e1 : nsIn K mainGlobals "law" = some (some (.ref f))) (e2 : K.lookup f = some ⟨oc, od, .func (fnOf "law" "law" params body scope dV kV doc pm an cdv ct), sl⟩) (e3 : codeIn K cdv "law" = true) .. : ∃ t, My.Txt K t

set_option maxRecDepth 100000 in
set_option maxHeartbeats 0 in
theorem PySem.Challenge.cw_LID_holds : PySem.Challenge.rw_LID.Holds := by
  w_on; o_law; k_head; (case hw => w_witness2)
  k_fill
  refine L2.walk_of (l := PySem.Challenge.rw_LID) (n := 63) (k := 40) (x := "script") (CX := fun w => ..) (sp := fun _ => My.sp_law) rfl (by decide) rfl ⟨rfl, by decide, by decide⟩ (fun w h Y => PySem.W.kIn_of Y) ?F ?S ?C
  case F =>
    intro w mg fa h KX G hmg
    have T : ∃ t, My.Txt (L2.KOf KX) t := by
      dsimp only [L2.KOf]                          -- K must stand as «<heap const> w.params» for k_is
      refine' My.txt_mk ?e1 ?e2 ?e3 ..
      (case e1 => PySem.W.k_is)                    -- in the order: a name -> its address -> its object -> its parts
      (case e2 => PySem.W.k_is)
      ..
    obtain ⟨t, T⟩ := T
    have e0 := hmg.symm.trans (PySem.W.mg_of KX G T.law)
    cases e0                                       -- fa is the law's own address
    exact ⟨_, fun s u => .of_eq rfl, fun base kb nb => My.law_fn T kb nb⟩     -- if «.of_eq rfl» comes too early: refine' ⟨_, ?b, fun base kb nb => My.law_fn T kb nb⟩; exact fun s u => .of_eq rfl
  case S => exact fun w H a ns hl hO hS => ..
  case C => exact ..
(the tactic k_is has no namespace: write k_is) -/

/-! SHORT WORDS over the layer: a def of the text, its body, what a loop and a test want. -/
namespace L2
open PySem PySem.Spec PyProof.Rows

/-! ### the text by places -/
def defArgs (s : Stmt) : Arguments := match s with
  | .FunctionDef _ a _ _ _ _ _ _ _ _ => a
  | _ => { posonlyargs := [], args := [], vararg := none, kwonlyargs := [], kw_defaults := [], kwarg := none, defaults := [] }
def defBody (s : Stmt) : List Stmt := match s with
  | .FunctionDef _ _ b _ _ _ _ _ _ _ => b
  | _ => []
def defScope (s : Stmt) : Scope := match s with
  | .FunctionDef _ _ _ _ _ _ sc _ _ _ => sc
  | _ => { kind := .function, names := [], isGenerator := false, isCoroutine := false }

/-! ### no exception leaves a def -/
abbrev CX0 : CXT := fun _ _ _ _ _ _ => False
abbrev E0 : XK := fun _ _ _ => False
theorem pass0 {X : Cx} : Passes CX0 X E0 := fun _ _ _ _ _ _ _ h => h.elim

/-! ### a def (or method) of the text as it stands behind the top -/
structure Fun (K : PySem.W.Frag) (x qual : Str) (st : Stmt) (f : Addr) (fd : FuncData) : Prop where
  ex : ∃ (oc : Value) (od : Option Addr) (kV doc pm : Value) (an : Option Addr) (cdv ct : Value) (osl : Array (Option Value)),
    fd = PySem.W.fnOf x qual (defArgs st) (defBody st) (defScope st) .none kV doc pm an cdv ct ∧ K.lookup f = some ⟨oc, od, .func fd, osl⟩ ∧ PySem.W.codeIn K cdv qual = true
  kp : PySem.W.keepIn K (.ref f) = true
section
variable {P : Program} {w : World} {K : PySem.W.Frag} {mg : Str → Option Value} {base : Heap}
/-- THE RULE for a def: its body as a term of rules, and the reading of that term -/
theorem Fun.ok {x qual : Str} {st : Stmt} {f : Addr} {fd : FuncData} {N ps : List Str} {k : Nat} {sp : Sp} (F : Fun K x qual st f fd) (S : FnScope N ps (defScope st)) (len : ∀ vs H Q E, sp vs H Q E → vs.length = ps.length)
    (hbody : ∀ (cdv : Value) (A : Around) (outer : List Env) (s : Shared) (H : Hp) (vs : List V) (Q : VK) (E : XK), Room k (A.deeper (envOfC qual (defScope st) s.heap.objs.size f cdv)) → sp vs H Q E →
      ∃ t, PSs (cxOf CX0 P w K mg base N qual (defScope st) f cdv A outer s H E).nox (defBody st) t ∧ t { nx := fun _ H' => Q .non H', rt := Q } (start N vs) H) : FnOk P w K mg base CX0 (k + 1) f fd ps sp := by
  obtain ⟨oc, od, kV, doc, pm, an, cdv, ct, osl, rfl, lk, hcd⟩ := F.ex
  refine fn_of lk hcd S len fun A outer s H vs Q E hr hsp => ?_
  obtain ⟨t, h, q⟩ := hbody cdv A outer s H vs Q E hr hsp
  exact ⟨t, h.nox, q⟩
/-- how its arguments bind (no defaults): h is «fun _ _ _ _ _ _ us hl => match us, hl with | [_, _], _ => rfl», one _ a parameter -/
theorem Fun.binds {x qual : Str} {st : Stmt} {f : Addr} {fd : FuncData} {ps : List Str} (F : Fun K x qual st f fd)
    (h : ∀ (kV doc pm : Value) (an : Option Addr) (cdv ct : Value) (us : List Value), us.length = ps.length → bindArgs (PySem.W.fnOf x qual (defArgs st) (defBody st) (defScope st) .none kV doc pm an cdv ct) ⟨us, []⟩ = pure (ps.zip us)) : Binds K fd ps [] := by
  obtain ⟨oc, od, kV, doc, pm, an, cdv, ct, osl, rfl, lk, hcd⟩ := F.ex
  exact .all (h kV doc pm an cdv ct)
theorem fun_mk {x qual : Str} {st : Stmt} {f : Addr} {oc : Value} {od an : Option Addr} {osl : Array (Option Value)} {kV doc pm cdv ct : Value} (l : K.lookup f = some ⟨oc, od, .func (PySem.W.fnOf x qual (defArgs st) (defBody st) (defScope st) .none kV doc pm an cdv ct), osl⟩)
    (c : PySem.W.codeIn K cdv qual = true) (k : PySem.W.keepIn K (.ref f) = true) : Fun K x qual st f (PySem.W.fnOf x qual (defArgs st) (defBody st) (defScope st) .none kV doc pm an cdv ct) := ⟨⟨oc, od, kV, doc, pm, an, cdv, ct, osl, rfl, l, c⟩, k⟩
end
/-! ### expressions in short: the name that stands in the i-th slot -/
section
variable {X : Cx}
end

/-! ### tests -/
theorem iteF {A B : Prop} (h : B) : if false = true then A else B := by
  rw [if_neg Bool.false_ne_true]
  exact h
theorem iteT {A B : Prop} (h : A) : if true = true then A else B := by
  rw [if_pos rfl]
  exact h
/-! ### heaps -/
/-- all that was tracked is as it was -/
def Same (H H' : Hp) : Prop := ∀ b o, H b = some o → H' b = some o
theorem Same.trans {H H1 H2 : Hp} (a : Same H H1) (b : Same H1 H2) : Same H H2 := fun c o h => b c o (a c o h)
theorem Same.free {H H' : Hp} (e : Same H H') {l : Addr} (h : H' l = Option.none) : H l = Option.none := by
  cases q : H l with
  | none => rfl
  | some o =>
    rw [e l o q] at h
    cases h
theorem Same.seq {K : PySem.W.Frag} {H H' : Hp} {a : Addr} {xs : List V} (e : Same H H') (h : SqL K H a xs) : SqL K H' a xs := by
  rcases h with (h | ⟨o, h⟩) | h
  · exact .inl (.inl (e _ _ h))
  · exact .inl (.inr ⟨o, e _ _ h⟩)
  · exact .inr h

end L2

set_option Elab.async false
set_option maxRecDepth 100000
set_option maxHeartbeats 4000000
namespace SB
open PySem PyProof.Rows

structure SI (a0 : Array Keyed) (st : SortSt) : Prop where
  perm : (arrOf st).Perm a0
  kind : kindOf st = oneType'
  failed : failedOf st = none
section
variable {prog : Program} {w : World} {A : Around} {E : Value → Shared → Prop} {s : Shared} {a0 : Array Keyed}
/-- what was laid out so far -/
def Laid (a b : Array Keyed) (ia ib : Nat) (out : Array Keyed) : Prop := out.toList.Perm (a.toList.take ia ++ b.toList.take ib)
structure Mid (a b : Array Keyed) (c0 ia ib : Nat) (out : Array Keyed) : Prop where
  laid : Laid a b ia ib out
  ha : ia + 1 < a.size
  hb : ib < b.size
  pr : c0 ≤ ia + ib
/-- what was laid out from behind so far -/
def LaidH (a b : Array Keyed) (na nb : Nat) (out : Array Keyed) : Prop := out.toList.Perm (a.toList.drop na ++ b.toList.drop nb)
structure MidH (a b : Array Keyed) (c0 na nb : Nat) (out : Array Keyed) : Prop where
  laid : LaidH a b na nb out
  ha : 1 ≤ na
  ha2 : na ≤ a.size
  hb : 2 ≤ nb
  hb2 : nb ≤ b.size
  pr : c0 + na + nb ≤ a.size + b.size
end
end SB

set_option Elab.async false
set_option maxRecDepth 100000
set_option maxHeartbeats 4000000
namespace SB
open PySem PyProof.Rows

/-- the key of a thing that is sorted -/
abbrev ks (p : Keyed) : Int := numOf p.1
/-- sorted from place i to before place j -/
def Up (xs : Array Keyed) (i j : Nat) : Prop := ∀ k m, i ≤ k → k ≤ m → m < j → K xs k ≤ K xs m
def Dn (xs : Array Keyed) (i j : Nat) : Prop := ∀ k m, i ≤ k → k ≤ m → m < j → K xs m ≤ K xs k
section
variable {prog : Program} {w : World} {A : Around} {E : Value → Shared → Prop} {s : Shared} {a0 : Array Keyed}
/-- falling so far, the last q + 1 alike -/
structure Fall (xs : Array Keyed) (lo x q : Nat) : Prop where
  dn : Dn xs lo (lo + x)
  q1 : q + 1 ≤ x
  eq : ∀ i, lo + x - (q + 1) ≤ i → i < lo + x → K xs i = K xs (lo + x - 1)
end
end SB

set_option Elab.async false
set_option maxRecDepth 100000
set_option maxHeartbeats 4000000
namespace SB
open PySem PyProof.Rows
section
variable {prog : Program} {w : World} {A : Around} {E : Value → Shared → Prop} {s : Shared} {a0 : Array Keyed}
abbrev Srt (l : List Keyed) : Prop := l.Pairwise fun p q => ks p ≤ ks q
/-- laid out in order, and not above what is left -/
structure Od (a b : Array Keyed) (ia ib : Nat) (out : Array Keyed) : Prop where
  laid : Laid a b ia ib out
  srt : Srt out.toList
  la : ∀ p, p ∈ out.toList → ∀ j, ia ≤ j → j < a.size → ks p ≤ K a j
  lb : ∀ p, p ∈ out.toList → ∀ j, ib ≤ j → j < b.size → ks p ≤ K b j
/-- both are sorted; the first of b comes first, the last of a last -/
structure Fit (a b : Array Keyed) : Prop where
  ua : Up a 0 a.size
  ub : Up b 0 b.size
  fb : ∀ j, j < a.size → K b 0 ≤ K a j
  la : ∀ j, j < b.size → K b j ≤ K a (a.size - 1)
variable {a b : Array Keyed} {ia ib : Nat} {out : Array Keyed}
end
end SB

set_option Elab.async false
set_option maxRecDepth 100000
set_option maxHeartbeats 4000000
namespace SB
open PySem PyProof.Rows
section
variable {prog : Program} {w : World} {A : Around} {E : Value → Shared → Prop} {s : Shared} {a0 : Array Keyed}
variable {a b : Array Keyed} {ia ib na nb : Nat} {out : Array Keyed}
structure MidO (a b : Array Keyed) (c0 ia ib : Nat) (out : Array Keyed) : Prop where
  laid : Od a b ia ib out
  ha : ia + 1 < a.size
  hb : ib < b.size
  pr : c0 ≤ ia + ib
/-- laid out from behind in order, and not below what is left -/
structure OdH (a b : Array Keyed) (na nb : Nat) (out : Array Keyed) : Prop where
  laid : LaidH a b na nb out
  srt : out.toList.Pairwise fun p q => ks q ≤ ks p
  la : ∀ p, p ∈ out.toList → ∀ j, j < na → K a j ≤ ks p
  lb : ∀ p, p ∈ out.toList → ∀ j, j < nb → K b j ≤ ks p
structure MidHO (a b : Array Keyed) (c0 na nb : Nat) (out : Array Keyed) : Prop where
  laid : OdH a b na nb out
  ha : 1 ≤ na
  ha2 : na ≤ a.size
  hb : 2 ≤ nb
  hb2 : nb ≤ b.size
  pr : c0 + na + nb ≤ a.size + b.size
end
end SB

set_option Elab.async false
set_option maxRecDepth 100000
set_option maxHeartbeats 4000000
namespace SB
open PySem PyProof.Rows
section
variable {prog : Program} {w : World} {A : Around} {E : Value → Shared → Prop} {s : Shared} {a0 : Array Keyed}
end
end SB

set_option Elab.async false
set_option maxRecDepth 100000
set_option maxHeartbeats 4000000
namespace SB
open PySem PyProof.Rows
section
variable {prog : Program} {w : World} {A : Around} {E : Value → Shared → Prop} {s : Shared} {a0 : Array Keyed}
end
end SB

set_option Elab.async false
set_option maxRecDepth 100000
set_option maxHeartbeats 4000000
namespace SB
open PySem PyProof.Rows
section
variable {prog : Program} {w : World} {A : Around} {E : Value → Shared → Prop} {s : Shared} {a0 : Array Keyed}
end
end SB

set_option Elab.async false
set_option maxRecDepth 100000
set_option maxHeartbeats 4000000
namespace L2
open PySem PySem.Spec PyProof.Rows
section
variable {X : Cx}
/-! ### floor division by a number that is not too great -/
theorem log2_small {y : Int} (h0 : 0 < y) (h : y < 2 ^ 200) : y.natAbs.log2 < 9000 := by
  have h1 : y.natAbs ≠ 0 := by omega
  have h2 : y.natAbs.log2 < 200 := (Nat.log2_lt h1).mpr (by omega)
  omega
theorem op_fdivL : OpR X (binaryOp .FloorDiv) (rI (fun _ j => 0 < j ∧ j < 2 ^ 200) fun i j => .int (i / j)) := opI fun i j _ _ _ _ _ hc q => by
  refine floordiv_int (by omega) ?_ (.inl (PyProof.noPylong_of_log2 (log2_small hc.1 hc.2)))
  rw [Int.fdiv_eq_ediv_of_nonneg i (by omega)]
  exact q
/-! ### sum, max, min, sorted of a list of ints -/
theorem call_max (hc : X.calm = true) : CallR X (.builtin "max") (fun xs H Q => ∃ (p : Addr) (ns : List Int), xs = [.ref p] ∧ SqL X.K H p (ns.map V.int) ∧ ns ≠ [] ∧ ∀ M, M ∈ ns → (∀ a, a ∈ ns → a ≤ M) → Q (.int M) H) := by
  intro pins s σ H xs us Q I r h
  obtain ⟨p, ns, rfl, hq, hne, q⟩ := h
  obtain ⟨u, rfl, rx⟩ := vals1 r
  cases rx
  obtain ⟨its, r', pl, hz⟩ := I.list hq
  have hi := intsAre_of r'
  obtain ⟨xs, e⟩ := hi.allInts.items
  have hns : ns = xs.toList.map (·.1) := by rw [← hi.numsOf, ← nums_intItems, ← e]
  have hl := pl.isList
  rw [e] at hl
  have hsz : 0 < xs.size := by
    have h3 := List.length_pos_iff.mpr hne; rw [hns, List.length_map, Array.length_toList] at h3; exact h3
  refine max_intList (I.ok.hd hc) hl hsz fun v h' tk hv hk => ?_
  obtain ⟨t, rfl⟩ := intItems_at hv
  obtain ⟨h1, h2⟩ := argBest_gt (numAt xs) (xs.size - 1)
  refine ⟨.int _, H, I.kept hk, ⟨t, rfl⟩, q _ ?_ fun a ha => ?_⟩
  · rw [hns, numAt_eq]; exact getD_mem (by rw [List.length_map, Array.length_toList]; omega)
  · rw [hns] at ha
    obtain ⟨j, hj, rfl⟩ := mem_getD ha
    rw [List.length_map, Array.length_toList] at hj
    rw [← numAt_eq]; exact h2 j (by omega)
theorem call_min (hc : X.calm = true) : CallR X (.builtin "min") (fun xs H Q => ∃ (p : Addr) (ns : List Int), xs = [.ref p] ∧ SqL X.K H p (ns.map V.int) ∧ ns ≠ [] ∧ ∀ M, M ∈ ns → (∀ a, a ∈ ns → M ≤ a) → Q (.int M) H) := by
  intro pins s σ H xs us Q I r h
  obtain ⟨p, ns, rfl, hq, hne, q⟩ := h
  obtain ⟨u, rfl, rx⟩ := vals1 r
  cases rx
  obtain ⟨its, r', pl, hz⟩ := I.list hq
  have hi := intsAre_of r'
  obtain ⟨xs, e⟩ := hi.allInts.items
  have hns : ns = xs.toList.map (·.1) := by rw [← hi.numsOf, ← nums_intItems, ← e]
  have hl := pl.isList
  rw [e] at hl
  have hsz : 0 < xs.size := by
    have h3 := List.length_pos_iff.mpr hne; rw [hns, List.length_map, Array.length_toList] at h3; exact h3
  refine min_intList (I.ok.hd hc) hl hsz fun v h' tk hv hk => ?_
  obtain ⟨t, rfl⟩ := intItems_at hv
  obtain ⟨h1, h2⟩ := argBest_lt (numAt xs) (xs.size - 1)
  refine ⟨.int _, H, I.kept hk, ⟨t, rfl⟩, q _ ?_ fun a ha => ?_⟩
  · rw [hns, numAt_eq]; exact getD_mem (by rw [List.length_map, Array.length_toList]; omega)
  · rw [hns] at ha
    obtain ⟨j, hj, rfl⟩ := mem_getD ha
    rw [List.length_map, Array.length_toList] at hj
    rw [← numAt_eq]; exact h2 j (by omega)
/-! ### repr -/
/-- what a value reads as, n deep -/
def RV : Nat → Hp → V → PyData → Prop
  | _, _, .non, d => d = .none
  | _, _, .bl b, d => d = .bool b
  | _, _, .int i, d => d = .int i
  | _, _, .str x, d => d = .str x
  | n + 1, H, .ref a, d => (∃ xs ds, Rd H a (.lst xs) ∧ d = .list ds ∧ Paired (RV n H) xs ds) ∨ ∃ xs ds, Rd H a (.tup xs) ∧ d = .tuple ds ∧ Paired (RV n H) xs ds
  | _, _, _, _ => False
/-- a thing whose repr may be asked -/
structure Shw (d : PyData) : Prop where
  sh : d.showable = true
  nd : d.hasDict = false
  dp : d.depth ≤ 30
  sz : d.shown.length ≤ sizeLine
end
end L2

set_option Elab.async false
set_option maxRecDepth 100000
set_option maxHeartbeats 4000000
namespace L2
open PySem PySem.Spec PyProof.Rows
/-! ### comprehensions -/
/-- the context of a comprehension's block: s0, H0 the state with the new list laid, C its names, fp the iterator's records -/
abbrev cxComp (X : Cx) (pins : List (Addr × Obj)) (N' : List Str) (scope : Scope) (cl : List (Str × Addr)) (C : Addr) (s0 : Shared) (H0 : Hp) (fp : List Addr) : Cx :=
  { X with N := N', s₀ := s0, H₀ := H0, env := compEnvC scope cl C X.env, outer := X.stack, ex := fp, fn := fun _ => false, pn := X.pn ++ pins, xe := fun _ _ => False }
theorem find_names {k : NameKind} : ∀ {names : List (Str × NameKind)} {x : Str}, names.lookup x = some k → (x, k) ∈ names
  | (n, j) :: r, x, h => by
    rw [List.lookup_cons] at h
    cases e : x == n with
    | true =>
      rw [e] at h
      cases h
      rw [eq_of_beq e]
      exact List.mem_cons_self
    | false =>
      rw [e] at h
      exact List.mem_cons_of_mem _ (find_names h)
/-- the cells that a block takes along -/
structure Clo (scope : Scope) (env : Env) (cl : List (Str × Addr)) : Prop where
  eq : closureFor scope env = pure cl
  sub : ∀ x c, cl.lookup x = some c → env.cells.lookup x = some c
  has : ∀ x, (x, NameKind.free) ∈ scope.names → ∃ c, cl.lookup x = some c
theorem clo_go {env : Env} : ∀ (names : List (Str × NameKind)) (acc : List (Str × Addr)), (∀ x, (x, NameKind.free) ∈ names → ∃ c, env.cells.lookup x = some c) → (∀ x c, acc.lookup x = some c → env.cells.lookup x = some c) →
    ∃ cl, (forIn names acc fun (y : Str × NameKind) cs => (if y.2 == NameKind.free then do let c ← cellOf env y.1; pure (ForInStep.yield ((y.1, c) :: cs)) else pure (ForInStep.yield cs) : Sem (ForInStep (List (Str × Addr))))) = pure cl ∧
      (∀ x c, cl.lookup x = some c → env.cells.lookup x = some c) ∧ (∀ x, (x, NameKind.free) ∈ names → ∃ c, cl.lookup x = some c) ∧ ∀ x, (∃ c, acc.lookup x = some c) → ∃ c, cl.lookup x = some c
  | [], acc, _, hs => ⟨acc, rfl, hs, fun _ h => by simp at h, fun _ h => h⟩
  | (n, k) :: r, acc, hh, hs => by
    by_cases hk : k = NameKind.free
    · subst hk
      obtain ⟨c, hc⟩ := hh n List.mem_cons_self
      obtain ⟨cl, e, h1, h2, h3⟩ := clo_go r ((n, c) :: acc) (fun x hx => hh x (List.mem_cons_of_mem _ hx)) (fun x c' hx => by
        rw [List.lookup_cons] at hx
        cases en : x == n with
        | true => rw [en] at hx; cases hx; rw [eq_of_beq en]; exact hc
        | false => rw [en] at hx; exact hs x c' hx)
      refine ⟨cl, ?_, h1, fun x hx => ?_, fun x ⟨c', hx⟩ => ?_⟩
      · rw [List.forIn_cons]
        have ec : cellOf env n = pure c := by unfold cellOf; rw [hc]
        simp only [beq_self_eq_true, if_true, ec, pure_bind]
        exact e
      · rcases List.mem_cons.mp hx with hx | hx
        · cases hx
          exact h3 n ⟨c, by rw [List.lookup_cons]; simp⟩
        · exact h2 x hx
      · refine h3 x ?_
        cases en : x == n with
        | true => exact ⟨c, by rw [List.lookup_cons, en]⟩
        | false => exact ⟨c', by rw [List.lookup_cons, en]; exact hx⟩
    · obtain ⟨cl, e, h1, h2, h3⟩ := clo_go r acc (fun x hx => hh x (List.mem_cons_of_mem _ hx)) hs
      refine ⟨cl, ?_, h1, fun x hx => ?_, h3⟩
      · rw [List.forIn_cons]
        have hb : (k == NameKind.free) = false := by simpa using hk
        simp only [hb, Bool.false_eq_true, if_false, pure_bind]
        exact e
      · rcases List.mem_cons.mp hx with hx | hx
        · cases hx; exact absurd rfl hk
        · exact h2 x hx
theorem clo_mk {scope : Scope} {env : Env} (h : ∀ x, (x, NameKind.free) ∈ scope.names → ∃ c, env.cells.lookup x = some c) : ∃ cl, Clo scope env cl := by
  obtain ⟨cl, e, h1, h2, _⟩ := clo_go (env := env) scope.names [] h (fun x c hx => by simp at hx)
  exact ⟨cl, by unfold closureFor; exact (by simpa using e), h1, h2⟩
/-- which slot of the outer names a block's slot takes: all checks on the text -/
def capOk (N' : List Str) (caps : List (Option Nat)) (N : List Str) (names names' : List (Str × NameKind)) : Bool :=
  (N'.length == caps.length) && (N'.zip caps).all (fun p => match p.2 with
    | none => true
    | some j => N[j]? == some p.1 && names'.lookup p.1 == some .free) &&
  names'.all (fun p => p.2 != NameKind.cell && (p.2 != NameKind.free || names.lookup p.1 == some .cell || names.lookup p.1 == some .free) && (p.2 != NameKind.local || names'.lookup p.1 == some .local))
def capSt (caps : List (Option Nat)) (σ : St) : St := caps.map fun o => match o with
  | none => none
  | some j => (σ[j]?).join
theorem relabel_free {env : Env} : ∀ {names : List (Str × NameKind)} {x : Str}, names.lookup x = some .free →
    (names.map fun (n, k) => if (k == NameKind.free && env.scope.kind == .function && env.kindOf n == some .cell) then (n, NameKind.cell) else (n, k)).lookup x = some .cell ∨
    (names.map fun (n, k) => if (k == NameKind.free && env.scope.kind == .function && env.kindOf n == some .cell) then (n, NameKind.cell) else (n, k)).lookup x = some .free
  | (n, k) :: r, x, h => by
    have ih := @relabel_free env r x
    show List.lookup x ((if (k == NameKind.free && env.scope.kind == .function && env.kindOf n == some .cell) = true then (n, NameKind.cell) else (n, k)) :: _) = _ ∨
      List.lookup x ((if (k == NameKind.free && env.scope.kind == .function && env.kindOf n == some .cell) = true then (n, NameKind.cell) else (n, k)) :: _) = _
    cases hx : x == n with
    | true =>
      simp only [List.lookup_cons, hx] at h
      cases h
      by_cases hc : (NameKind.free == NameKind.free && env.scope.kind == .function && env.kindOf n == some .cell) = true
      · rw [if_pos hc]; simp [List.lookup_cons, hx]
      · rw [if_neg hc]; simp [List.lookup_cons, hx]
    | false =>
      simp only [List.lookup_cons, hx] at h
      by_cases hc : (k == NameKind.free && env.scope.kind == .function && env.kindOf n == some .cell) = true
      · rw [if_pos hc]; simp only [List.lookup_cons, hx]; exact ih h
      · rw [if_neg hc]; simp only [List.lookup_cons, hx]; exact ih h
theorem relabel_back {env : Env} : ∀ {names : List (Str × NameKind)} {x : Str}, (∀ p ∈ names, p.2 ≠ .cell) →
    ((names.map fun (n, k) => if (k == NameKind.free && env.scope.kind == .function && env.kindOf n == some .cell) then (n, NameKind.cell) else (n, k)).lookup x = some .cell ∨
     (names.map fun (n, k) => if (k == NameKind.free && env.scope.kind == .function && env.kindOf n == some .cell) then (n, NameKind.cell) else (n, k)).lookup x = some .free) → (x, NameKind.free) ∈ names
  | [], x, _, h => by simp at h
  | (n, k) :: r, x, hc0, h => by
    have ih := @relabel_back env r x (fun p hp => hc0 p (List.mem_cons_of_mem _ hp))
    have hk0 : k ≠ .cell := hc0 (n, k) List.mem_cons_self
    rw [List.map_cons] at h
    generalize (r.map fun (x : Str × NameKind) => match x with | (n, k) => if (k == NameKind.free && env.scope.kind == ScopeKind.function && env.kindOf n == some NameKind.cell) = true then (n, NameKind.cell) else (n, k)) = R at h ih
    dsimp only at h
    by_cases hc : (k == NameKind.free && env.scope.kind == .function && env.kindOf n == some .cell) = true
    · rw [if_pos hc] at h
      cases hx : x == n with
      | true =>
        have hkf : k = .free := by
          rw [Bool.and_eq_true, Bool.and_eq_true] at hc
          exact eq_of_beq hc.1.1
        rw [eq_of_beq hx, hkf]; exact List.mem_cons_self
      | false =>
        rw [List.lookup_cons, hx] at h
        exact List.mem_cons_of_mem _ (ih h)
    · rw [if_neg hc] at h
      cases hx : x == n with
      | true =>
        rw [List.lookup_cons, hx] at h
        rcases h with h | h
        · exact absurd (Option.some.inj h) hk0
        · rw [eq_of_beq hx, Option.some.inj h]; exact List.mem_cons_self
      | false =>
        rw [List.lookup_cons, hx] at h
        exact List.mem_cons_of_mem _ (ih h)
section
variable {X : Cx} {pins : List (Addr × Obj)} {σ : St} {H : Hp} {s : Shared}
/-- at a block's entry -/
theorem comp_start {N' : List Str} {caps : List (Option Nat)} {scope : Scope} {cl : List (Str × Addr)} {fp : List Addr} {h1 : Heap} {tk : Nat} (I : Inv X pins σ H s) (hfp : ∀ b ∈ fp, FpOk X pins H b) (hfo : ∀ b ∈ fp, ∃ o, s.heap.get? b = some o)
    (hcap : capOk N' caps X.N X.env.scope.names scope.names = true) (hkind : scope.kind = .function) (hC : Clo scope X.env cl)
    (hns : h1.Ns (s.heap.objs.size + 1) fun _ => none) (hsb : Heap.SameBut (s.heap.objs.size + 1) ((s.heap.push { cls := .type "list", data := .seq #[] }).push { cls := .type "dict", data := .dict #[] }) h1) :
    Inv (cxComp X pins N' scope cl (s.heap.objs.size + 1) { s with heap := s.heap.push { cls := .type "list", data := .seq #[] } } (upd H s.heap.objs.size (.lst [])) fp) [] (capSt caps σ) (upd H s.heap.objs.size (.lst [])) { s with heap := h1, toks := tk } := by
  have hn : H s.heap.objs.size = none := I.hok.fresh (Nat.le_refl _)
  have hz : (s.heap.push { cls := .type "list", data := .seq #[] }).objs.size = s.heap.objs.size + 1 := Heap.size_push ..
  have up1 : ∀ b o, s.heap.get? b = some o → (s.heap.push { cls := .type "list", data := .seq #[] }).get? b = some o := fun b o e => Heap.get?_push_of_some _ e
  have up2 : ∀ b o, (s.heap.push { cls := .type "list", data := .seq #[] }).get? b = some o → h1.get? b = some o := fun b o e => by
    have hb : b < s.heap.objs.size + 1 := by rw [← hz]; exact Heap.lt_size e
    exact hsb.extBut b o (Nat.ne_of_lt hb) (Heap.get?_push_of_some _ e)
  have I1 : Inv X pins σ (upd H s.heap.objs.size (.lst [])) { s with heap := s.heap.push { cls := .type "list", data := .seq #[] }, toks := s.toks } :=
    I.laid (t' := s.toks) up1 (Nat.le_refl _) (show ObjOk X.prog X.w _ _ _ (.lst []) from ⟨Nat.zero_le _, [], 0, .nil, Heap.get?_push_size _ rfl⟩)
  obtain ⟨hcap1, hcap3⟩ := Bool.and_eq_true_iff.mp hcap
  obtain ⟨hcap1, hcap2⟩ := Bool.and_eq_true_iff.mp hcap1
  have hlen : N'.length = caps.length := by simpa using hcap1
  have hcap3' := List.all_eq_true.mp hcap3
  have nocell : ∀ p ∈ scope.names, p.2 ≠ NameKind.cell := fun p hp => by
    have := hcap3' p hp
    simp only [Bool.and_eq_true, bne_iff_ne] at this
    exact this.1.1
  have hsub := I.stkSub
  have ltS : ∀ b o, s.heap.get? b = some o → b < s.heap.objs.size := fun b o e => Heap.lt_size e
  refine ⟨⟨I.ok.mod, hkind, I.ok.glob, I.ok.blt, Nat.le_of_eq hz, fun x y c e1 e2 => I.ok.inj x y c (hC.sub x c e1) (hC.sub y c e2), fun x hx => ?_, fun x c hf => absurd (show false = true from hf) Bool.false_ne_true, I.ok.hd, I.ok.frames, .inl rfl, fun b hb => ?_, fun b o e => ?_, ?_, fun b o e hb => ?_, fun b hb hf => ?_, ?_, fun b hb => ?_⟩,
    rfl, I.bare, Un.kept up2, ⟨_, hns, fun i x v e1 e2 e3 => ?_⟩, fun x c e => ?_, ?_, fun x c e => ?_, fun p hp => ?_, I1.hok.kept up2, ?_⟩
  · exact hC.has x (relabel_back nocell hx)
  · obtain ⟨o, ho⟩ := hfo b hb
    obtain ⟨f0, f1, f2, f3, f4, f5⟩ := hfp b hb
    exact ⟨Nat.ne_of_lt (Nat.lt_succ_of_lt (ltS b o ho)), fun x c e => f4 x c (hC.sub x c e)⟩
  · have q := I1.bs b o e
    exact q
  · show X.base.objs.size ≤ (s.heap.push _).objs.size
    rw [hz]
    exact Nat.le_trans (Nat.le_trans I.ok.bsz I.sz) (Nat.le_succ _)
  · obtain ⟨f0, f1, f2, f3, f4, f5⟩ := hfp b hb
    rcases f3 with f3 | f3
    · exact I.ok.noex b o e f3
    · exact absurd (Nat.lt_of_lt_of_le (Heap.lt_size e) (Nat.le_trans I.ok.bsz f3)) (Nat.lt_irrefl _)
  · obtain ⟨f0, f1, f2, f3, f4, f5⟩ := hfp b hb
    rcases List.mem_cons.mp (hsub b hf) with z | z
    · exact f1 z
    · exact f2 z
  · exact I1.stack
  · exact I1.stkFree b hb
  · -- the captured names
    have e2' : ∃ o, caps[i]? = some o ∧ (match o with | none => none | some j => (σ[j]?).join) = some v := by
      unfold capSt at e2
      rw [List.getElem?_map] at e2
      cases q : caps[i]? with
      | none => rw [q] at e2; cases e2
      | some o => rw [q] at e2; exact ⟨o, rfl, Option.some.inj e2⟩
    obtain ⟨o, ho, hv⟩ := e2'
    cases o with
    | none => cases hv
    | some j =>
      have hv' : (σ[j]?).join = some v := hv
      have hσ : σ[j]? = some (some v) := by
        cases q : σ[j]? with
        | none => rw [q] at hv'; cases hv'
        | some w => rw [q] at hv'; rw [show w = some v from hv']
      have hzip : (x, some j) ∈ N'.zip caps := by
        refine List.mem_iff_getElem?.mpr ⟨i, ?_⟩
        rw [List.getElem?_zip_eq_some]
        exact ⟨e1, ho⟩
      have q := List.all_eq_true.mp hcap2 _ hzip
      simp only [Bool.and_eq_true, beq_iff_eq] at q
      obtain ⟨q1, q2⟩ := q
      have q3 := hcap3' _ (find_names q2)
      have q4 : X.env.scope.names.lookup x = some .cell ∨ X.env.scope.names.lookup x = some .free := by
        simp only [bne_self_eq_false, Bool.false_or, Bool.and_eq_true, Bool.or_eq_true, beq_iff_eq] at q3
        exact q3.1.2
      obtain ⟨m, _, hl⟩ := I.loc
      obtain ⟨u, ru, lk⟩ := hl j x v q1 hσ (.inr q4)
      refine ⟨u, ru, .inr ⟨relabel_free q2, ?_⟩⟩
      have q5 : X.env.kindOf x = some .cell ∨ X.env.kindOf x = some .free := q4
      rcases lk with ⟨k, _⟩ | ⟨_, c, ec, hc⟩
      · rcases q5 with q5 | q5 <;> (rw [q5] at k; cases k)
      · obtain ⟨c', ec'⟩ := hC.has x (find_names q2)
        have := hC.sub x c' ec'
        rw [ec] at this
        cases this
        obtain ⟨oc, hoc, hdc⟩ := hc
        exact ⟨c, ec', oc, up2 _ _ (up1 _ _ hoc), hdc⟩
  · obtain ⟨v, oc, hoc, hdc⟩ := I.cell x c (hC.sub x c e)
    exact ⟨v, oc, up2 _ _ (up1 _ _ hoc), hdc⟩
  · show upd H _ _ (s.heap.objs.size + 1) = none
    rw [upd_ne (Nat.ne_of_gt (Nat.lt_succ_self _))]
    exact I.hok.fresh (Nat.le_succ _)
  · exact I1.freeC x c (hC.sub x c e)
  · have hp' : p ∈ X.pn ++ pins := by simpa using hp
    obtain ⟨a1, a2, a3, a4, a5⟩ := I1.pin p hp'
    obtain ⟨b1, _, _, _, _⟩ := I.pin p hp'
    refine ⟨up2 _ _ a1, a2, Nat.ne_of_lt (Nat.lt_succ_of_lt (ltS _ _ b1)), fun hf => ?_, a5⟩
    rcases List.mem_cons.mp (hsub p.1 hf) with z | z
    · exact a3 z
    · exact a4 z
  · show (capSt caps σ).length = N'.length
    unfold capSt
    rw [List.length_map, hlen]
/-- behind a block: the outer context again -/
theorem comp_back {N' : List Str} {scope : Scope} {cl : List (Str × Addr)} {fp : List Addr} {C : Addr} {pins' : List (Addr × Obj)} {σ' : St} {H' : Hp} {s' : Shared} (I : Inv X pins σ H s) (hfp : ∀ b ∈ fp, FpOk X pins H b)
    (J : Inv (cxComp X pins N' scope cl C { s with heap := s.heap.push { cls := .type "list", data := .seq #[] } } (upd H s.heap.objs.size (.lst [])) fp) pins' σ' H' s') : Inv X pins σ H' s' := by
  have hn : H s.heap.objs.size = none := I.hok.fresh (Nat.le_refl _)
  refine I.call' (ch := fp) J.os ?_ J.hok J.bare fun b hb => ?_
  · exact (Un.laid (fun b o e => Heap.get?_push_of_some _ e) (Nat.le_refl _) hn).trans J.base
  · obtain ⟨f0, f1, f2, f3, f4, f5⟩ := hfp b hb
    exact ⟨f3, f1, f4, f5⟩
end
end L2
namespace L2
open PySem PySem.Spec PyProof.Rows
/-- the tests of a comprehension -/
def PIfs (X : Cx) (ifs : List Expr) (t : TT) : Prop :=
  ∀ (pins : List (Addr × Obj)) (s : Shared) (σ : St) (H : Hp) (Q : Bool → Hp → Prop), Inv X pins σ H s → t σ H Q →
    wpAny (model X.prog X.w) X.A (forIn ifs true fun c r => if r = true then do let ok ← isTrue c X.env (eval c X.env); pure (ForInStep.yield ok) else pure (ForInStep.yield r)) (TP X pins σ Q) X.xe s
def tYes : TT := fun _ H Q => Q true H
theorem pifs_nil {X : Cx} : PIfs X [] tYes := fun _ _ _ H _ I h => wpAny_tests_nil ⟨H, I, h⟩
theorem pifs_one {X : Cx} {c : Expr} {t : TT} (h : PT X c t) : PIfs X [c] t := fun pins s σ H Q I q => wpAny_tests_one (h pins s σ H Q I q)
/-- a turn of a comprehension, from an iterator on -/
def compRead (J : It) (D : Addr) (g : TG) (tt : TT) (te : TE) (σ0 : St) (H0 : Hp) (Q : Hp → Prop) : Prop :=
  ∃ W : Nat → Nat → St → Hp → Prop, (∃ m, W 0 m σ0 H0) ∧ ∀ i m σ' H', W i m σ' H' →
    (J.stop i H' ∧ Q H') ∨ (J.go i H' ∧ ∃ N : St → Hp → Prop, (∀ σ' H', N σ' H' → ∃ m', m' < m ∧ W (i + 1) m' σ' H') ∧ ∀ x H2, J.yld i H' x H2 → g x σ' H2 fun σ2 H3 => tt σ2 H3 fun b H4 =>
      if b = true then te σ2 H4 fun v H5 => ∃ ys, H5 D = some (.lst ys) ∧ ys.length < sizeLine ∧ N σ2 (upd H5 D (.lst (ys ++ [v]))) else N σ2 H4)
/-- a list comprehension: the new list at D -/
def tComp (caps : List (Option Nat)) (wi : TI) (g : TG) (tt : TT) (te : TE) : TE := fun σ H Q => wi σ H fun J H1 => ∀ D, H1 D = none → compRead J D g tt te (capSt caps σ) (upd H1 D (.lst [])) fun H2 => Q (.ref D) H2
section
variable {X : Cx} {tg elt iter : Expr} {ifs : List Expr} {scope : Scope} {pos : Pos}
theorem comp_loop {X' : Cx} {fp : List Addr} {it D : Addr} {tn : Nat → Heap → Prop} {J : It} {g : TG} {tt : TT} {te : TE} {σ0 : St} {H0 : Hp} {s : Shared} {R : Result → Shared → Prop} {Qe : Hp → Prop} (hc : X'.calm = true) (hxe : X'.xe = fun _ _ => False)
    (T : Turn X'.prog X'.w X'.K tg J fp it tn) (hg : PG X' tg g) (ht : PIfs X' ifs tt) (he : PE X' elt te) (I : Inv X' [] σ0 H0 s) (hf : ∀ b ∈ fp, FpOk X' [] H0 b) (st : tn 0 s.heap) (q : compRead J D g tt te σ0 H0 Qe)
    (hR : ∀ s' σ' H', Inv X' [] σ' H' s' → Qe H' → R (.ok .next) s') :
    codeAny (model X'.prog X'.w) X'.A (.compLoop (.ListComp elt [⟨tg, iter, ifs, 0⟩] scope pos) 0 (.ref it) (.ref D) X'.env) R s := by
  obtain ⟨W, ⟨m0, w0⟩, turn⟩ := q
  have stat : ∀ {H' : Hp}, (∀ b ∈ fp, H' b = none) → ∀ b ∈ fp, FpOk X' [] H' b := fun hn b hb => ⟨hn b hb, (hf b hb).2⟩
  refine codeAny_loop rfl (fun n s' => ∃ i σ' H', Inv X' [] σ' H' s' ∧ tn i s'.heap ∧ (∀ b ∈ fp, H' b = none) ∧ W i n σ' H') ?_ m0 ⟨0, σ0, H0, I, st, fun b hb => (hf b hb).1, w0⟩
  rintro n s3 ⟨i, σ3, H3, I3, st3, fr3, w3⟩
  show wpAny _ X'.A ((compTurn (.ListComp elt [⟨tg, iter, ifs, 0⟩] scope pos) 0 (.ref it) (.ref D) X'.env).onRaise (fun x => do noteFrame x X'.env; theTreesLotGoes x)) _ _ s3
  refine wpAny_noted ?_
  rw [compTurn_list]
  have no : ∀ {α : Type} {t : Sem α} {Q : α → Shared → Prop} {s' : Shared} {E' : Value → Shared → Prop}, wpAny (model X'.prog X'.w) X'.A t Q X'.xe s' → wpAny (model X'.prog X'.w) X'.A t Q E' s' := fun h => wpAny_mono h (fun _ _ x => x) fun _ _ x => by rw [hxe] at x; exact x.elim
  refine wpAny_bind (wpAny_standAt ?_)
  rcases turn i n σ3 H3 w3 with ⟨stop, qn⟩ | ⟨go, N, hN, step⟩
  · refine wpAny_bind (thn (T.done X' rfl rfl rfl hc i [] s3 σ3 H3 _ I3 (stat fr3) st3 stop) fun r s4 ⟨hr, I4⟩ => ?_)
    subst hr
    exact wpAny_pure (hR _ _ _ I4 qn)
  · refine wpAny_bind (thn (T.item X' rfl rfl rfl hc i [] s3 σ3 H3 _ I3 (stat fr3) st3 go) fun r s4 ⟨u, hr, h4⟩ => ?_)
    subst hr
    refine wpAny_bind (thn h4 fun _ s5 ⟨x, H5, I5, r5, y5, st5, fr5⟩ => ?_)
    have I5' := I5.pinned (stat fr5) (T.obj _ _ st5)
    have again : ∀ {σ7 : St} {H7 : Hp} {s7 : Shared}, Inv X' ([] ++ pinsAt fp s5.heap) σ7 H7 s7 → N σ7 H7 → ∃ m, m < n ∧ ∃ i σ' H', Inv X' [] σ' H' s7 ∧ tn i s7.heap ∧ (∀ b ∈ fp, H' b = none) ∧ W i m σ' H' := fun {σ7 H7 s7} I7 n7 => by
      obtain ⟨m', hm, w7⟩ := hN σ7 H7 n7
      refine ⟨m', hm, i + 1, σ7, H7, I7.unpinned, T.keep _ _ _ st5 fun b hb o e => (I7.pin (b, o) (List.mem_append_right _ (List.mem_append_right _ (mem_pinsAt hb e)))).1, fun b hb => ?_, w7⟩
      obtain ⟨o, e, d⟩ := T.obj _ _ st5 b hb
      exact (I7.pin (b, o) (List.mem_append_right _ (List.mem_append_right _ (mem_pinsAt hb e)))).2.1
    refine wpAny_bind (thn (no (hg _ s5 σ3 H5 x u _ I5' r5 (step x H5 y5))) fun _ s6 ⟨σ6, H6, I6, q6⟩ => ?_)
    refine wpAny_bind (thn (no (ht _ s6 σ6 H6 _ I6 q6)) fun b s7 ⟨H7, I7, q7⟩ => ?_)
    cases b with
    | false => exact wpAny_pure ⟨rfl, again I7 q7⟩
    | true =>
      refine wpAny_bind (wpAny_bind (thn (no (he _ s7 σ6 H7 _ I7 q7)) fun v s8 ⟨y, H8, I8, r8, q8⟩ => ?_))
      obtain ⟨ys, hD, hsz, q8⟩ := q8
      refine wpAny_bind (thn (no (mt_append (X := X') _ s8 σ6 H8 (.ref D) [y] (Value.ref D) [v] (fun _ H9 => N σ6 H9) I8 rfl (.cons r8 .nil) ⟨D, ys, y, rfl, rfl, hD, hsz, q8⟩)) fun _ s9 ⟨z, H9, I9, _, q9⟩ => ?_)
      exact wpAny_pure (wpAny_pure ⟨rfl, again I9 q9⟩)
theorem vis_free {N' : List Str} {caps : List (Option Nat)} {N : List Str} {names names' : List (Str × NameKind)} (h : capOk N' caps N names names' = true) : (∀ p ∈ names', p.2 ≠ NameKind.cell) ∧ (∀ x, (x, NameKind.free) ∈ names' → names.lookup x = some .cell ∨ names.lookup x = some .free) ∧ ∀ p ∈ names', p.2 = .local → names'.lookup p.1 = some .local := by
  have h3 := List.all_eq_true.mp (Bool.and_eq_true_iff.mp h).2
  refine ⟨fun p hp => ?_, fun x hx => ?_, fun p hp hl => ?_⟩
  · have := h3 p hp
    simp only [Bool.and_eq_true, bne_iff_ne] at this
    exact this.1.1
  · have := h3 _ hx
    simp only [bne_self_eq_false, Bool.false_or, Bool.and_eq_true, Bool.or_eq_true, beq_iff_eq] at this
    exact this.1.2
  · have := h3 p hp
    rw [hl] at this
    simp only [bne_self_eq_false, Bool.false_or, Bool.and_eq_true, beq_iff_eq] at this
    exact this.2
/-- the block, from the iterator on -/
theorem comp_block {N' : List Str} {caps : List (Option Nat)} {pins : List (Addr × Obj)} {σ : St} {H : Hp} {s : Shared} {J : It} {fp : List Addr} {it : Addr} {tn : Nat → Heap → Prop} {g : TG} {tt : TT} {te : TE} {cl : List (Str × Addr)} {RR : Value → Addr → Result → Shared → Prop} {Qe : Addr → Hp → Prop}
    (hc : X.calm = true) (hcap : capOk N' caps X.N X.env.scope.names scope.names = true) (hkind : scope.kind = .function) (hC : Clo scope X.env cl)
    (hg : ∀ C s0 H0 fp, PG (cxComp X pins N' scope cl C s0 H0 fp) tg g) (ht : ∀ C s0 H0 fp, PIfs (cxComp X pins N' scope cl C s0 H0 fp) ifs tt) (he : ∀ C s0 H0 fp, PE (cxComp X pins N' scope cl C s0 H0 fp) elt te)
    (I : Inv X pins σ H s) (T : Turn X.prog X.w X.K tg J fp it tn) (st : tn 0 s.heap) (hf : ∀ b ∈ fp, FpOk X pins H b) (q : ∀ D, H D = none → compRead J D g tt te (capSt caps σ) (upd H D (.lst [])) (Qe D))
    (hR : ∀ (D C : Addr) (s' : Shared) (H' : Hp), Inv X pins σ H' s' → Qe D H' → D ≠ C → (∃ o m, s'.heap.get? C = some o ∧ (∀ v, o.data ≠ .cell v) ∧ (∀ h2 : Heap, h2.get? C = some o → h2.Ns C m)) → H' C = none → s.heap.objs.size ≤ C → RR (.ref D) C (.ok .next) s') :
    wpAny (model X.prog X.w) X.A (newList []) (fun acc s₃ => wpAny (model X.prog X.w) X.A (newFunctionEnv scope X.env.globals cl [] X.env.qual none .none (some X.env)) (fun cenv s₄ =>
      codeAny (model X.prog X.w) X.A (.compStart (.ListComp elt [⟨tg, iter, ifs, 0⟩] scope pos) 0 (.ref it) acc { cenv with scope := relabel scope X.env }) (RR acc cenv.locals) s₄) X.xe s₃) X.xe s := by
  refine wpAny_newObj_type (wpAny_newFunctionEnv (vis_free hcap).1 (by intro y hy; simp at hy) (fun h₁ hns₁ hsb₁ => ?_) hkind)
  have hz : (s.heap.push { cls := .type "list", data := .seq #[] }).objs.size = s.heap.objs.size + 1 := Heap.size_push ..
  have hns : h₁.Ns (s.heap.objs.size + 1) fun _ => none := by rw [← hz]; exact hns₁
  have hsb : Heap.SameBut (s.heap.objs.size + 1) ((s.heap.push { cls := .type "list", data := .seq #[] }).push { cls := .type "dict", data := .dict #[] }) h₁ := by rw [← hz]; exact hsb₁
  have hfo : ∀ b ∈ fp, ∃ o, s.heap.get? b = some o := fun b hb => let ⟨o, e, _⟩ := T.obj 0 _ st b hb; ⟨o, e⟩
  have I1 := comp_start (tk := s.toks + ([] : List (Str × Value)).length) I hf hfo hcap hkind hC hns hsb
  have hn : H s.heap.objs.size = none := I.hok.fresh (Nat.le_refl _)
  have up : ∀ b o, s.heap.get? b = some o → h₁.get? b = some o := fun b o e =>
    hsb.extBut b o (Nat.ne_of_lt (Nat.lt_succ_of_lt (Heap.lt_size e))) (Heap.get?_push_of_some _ (Heap.get?_push_of_some _ e))
  have st1 : tn 0 h₁ := T.keep _ _ _ st fun b _ o e => up b o e
  have f1 : ∀ b ∈ fp, FpOk (cxComp X pins N' scope cl (s.heap.objs.size + 1) { s with heap := s.heap.push { cls := .type "list", data := .seq #[] } } (upd H s.heap.objs.size (.lst [])) fp) [] (upd H s.heap.objs.size (.lst [])) b := fun b hb => by
    obtain ⟨a0, a1, a2, a3, a4, a5⟩ := hf b hb
    obtain ⟨o, ho⟩ := hfo b hb
    have hlt := Heap.lt_size ho
    refine ⟨by rw [upd_ne (Nat.ne_of_lt hlt)]; exact a0, Nat.ne_of_lt (Nat.lt_succ_of_lt hlt), fun z => ?_, .inl hb, fun x c e => a4 x c (hC.sub x c e), fun p hp => a5 p (by simpa using hp)⟩
    rcases List.mem_cons.mp (I.stkSub b z) with z | z
    · exact a1 z
    · exact a2 z
  have loop : codeAny (model X.prog X.w) X.A (.compLoop (.ListComp elt [⟨tg, iter, ifs, 0⟩] scope pos) 0 (.ref it) (.ref s.heap.objs.size) (compEnvC scope cl (s.heap.objs.size + 1) X.env))
      (RR (.ref s.heap.objs.size) (s.heap.objs.size + 1)) { s with heap := h₁, toks := s.toks + ([] : List (Str × Value)).length } := by
    refine comp_loop (X' := cxComp X pins N' scope cl (s.heap.objs.size + 1) { s with heap := s.heap.push { cls := .type "list", data := .seq #[] } } (upd H s.heap.objs.size (.lst [])) fp) hc rfl T (hg _ _ _ _) (ht _ _ _ _) (he _ _ _ _) I1 f1 st1 (q _ hn) fun s' σ' H' J' qe => ?_
    have B := comp_back I hf J'
    obtain ⟨m, hnC, _⟩ := J'.loc
    obtain ⟨o, es, ep, ho, hd, r⟩ := id hnC
    exact hR _ _ s' H' B qe (Nat.ne_of_lt (Nat.lt_succ_self _)) ⟨o, m, ho, (fun v z => by rw [hd] at z; cases z), fun h2 e2 => ⟨o, es, ep, e2, hd, r⟩⟩ J'.free (Nat.le_succ _)
  have fin := codeAny_compStart_list loop (T.self _ _ _ _ _ st1 loop)
  have hz2 : (s.heap.push { cls := .type "list", dict := none, data := .seq ([] : List Value).toArray }).objs.size = s.heap.objs.size + 1 := hz
  show codeAny _ _ (.compStart _ 0 _ _ { (newEnv scope (s.heap.push { cls := .type "list", dict := none, data := .seq ([] : List Value).toArray }).objs.size X.env.globals cl X.env.qual none .none (some X.env) _) with scope := relabel scope X.env }) (RR _ (s.heap.push { cls := .type "list", dict := none, data := .seq ([] : List Value).toArray }).objs.size) _
  rw [hz2]
  exact fin
theorem clo_of {N' : List Str} {caps : List (Option Nat)} {pins : List (Addr × Obj)} {σ : St} {H : Hp} {s : Shared} (I : Inv X pins σ H s) (hcap : capOk N' caps X.N X.env.scope.names scope.names = true) : ∃ cl, Clo scope X.env cl :=
  clo_mk fun x hx => I.ok.has x ((vis_free hcap).2.1 x hx)
/-- [elt for tg in iter if ..] -/
theorem pe_comp (N' : List Str) (caps : List (Option Nat)) {wi : TI} {g : TG} {tt : TT} {te : TE} (hc : X.calm = true) (hi : PI X tg iter wi)
    (hg : ∀ pins cl C s0 H0 fp, PG (cxComp X pins N' scope cl C s0 H0 fp) tg g) (ht : ∀ pins cl C s0 H0 fp, PIfs (cxComp X pins N' scope cl C s0 H0 fp) ifs tt) (he : ∀ pins cl C s0 H0 fp, PE (cxComp X pins N' scope cl C s0 H0 fp) elt te)
    (hcap : capOk N' caps X.N X.env.scope.names scope.names = true := by rfl) (hkind : scope.kind = .function := by rfl) (hs : ∀ x, foldedSetIterable iter X.env x = pure x := by intro _; rfl) :
    PE X (.ListComp elt [⟨tg, iter, ifs, 0⟩] scope pos) (tComp caps wi g tt te) := by
  intro pins s σ H Q I h
  obtain ⟨cl, hC⟩ := clo_of I hcap
  rw [eval_ListComp]
  refine wpAny_comprehension_free (use := none) rfl hs hC.eq hkind (vis_free hcap).2.2 (thn (hi pins s σ H _ I h) fun v s1 h1 => thn h1 fun itv s2 h2 => ?_)
  obtain ⟨it, fp, tn, J, H2, e, I2, T, st2, f2, q2⟩ := h2
  subst e
  refine comp_block (RR := fun acc C => compPost (model X.prog X.w) X.A X.xe none (EP X pins σ Q) acc C) (Qe := fun D H' => Q (.ref D) H') hc hcap hkind hC (hg pins cl) (ht pins cl) (he pins cl) I2 T st2 f2 q2 fun D C s' H' I' q' hDC hCo hCn hCs => ?_
  obtain ⟨o, m, ho, hd, hns⟩ := hCo
  refine ⟨m, hns _ ho, fun h' hsb => ⟨.ref D, H', ?_, rfl, q'⟩⟩
  obtain ⟨hp', g', d', t', os'⟩ := s'
  have hC0 : X.s₀.heap.objs.size ≤ C := Nat.le_trans I2.sz hCs
  exact I'.turned (t' := t') (it := C) (fun b o hb e => hsb.extBut b o hb e) hCn (fun z => by
    have := I2.lt; rw [← z] at this; exact absurd (Nat.lt_of_lt_of_le this hCs) (Nat.lt_irrefl _)) (.inr hC0) (fun x c e z => by
    obtain ⟨v, q⟩ := I2.cell x c e
    exact absurd (Nat.lt_of_lt_of_le q.lt (by rw [z]; exact hCs)) (Nat.lt_irrefl _)) (fun p hp z => by
    exact absurd (Nat.lt_of_lt_of_le (Heap.lt_size (I2.pin p hp).1) (by rw [z]; exact hCs)) (Nat.lt_irrefl _))
/-- name = [elt for tg in iter if ..] -/
theorem ps_comp (N' : List Str) (caps : List (Option Nat)) {i : Nat} {y : Str} {py spos : Pos} {wi : TI} {g : TG} {tt : TT} {te : TE} (hc : X.calm = true) (hN : X.N.Nodup) (hy : X.N[i]? = some y) (hl : Loc X.env.scope y) (hi : PI X tg iter wi)
    (hg : ∀ pins cl C s0 H0 fp, PG (cxComp X pins N' scope cl C s0 H0 fp) tg g) (ht : ∀ pins cl C s0 H0 fp, PIfs (cxComp X pins N' scope cl C s0 H0 fp) ifs tt) (he : ∀ pins cl C s0 H0 fp, PE (cxComp X pins N' scope cl C s0 H0 fp) elt te)
    (hsw : swapsWith (.ListComp elt [⟨tg, iter, ifs, 0⟩] scope pos) (some (.Name y py)) spos.line X.env = pure true := by rfl)
    (hcap : capOk N' caps X.N X.env.scope.names scope.names = true := by rfl) (hkind : scope.kind = .function := by rfl) (hs : ∀ x, foldedSetIterable iter X.env x = pure x := by intro _; rfl)
    (hf : X.fn y = true ∨ X.env.scope.names.lookup y = some .local := by first | exact .inl rfl | exact .inr rfl | assumption) :
    PS X (.Assign [.Name y py] (.ListComp elt [⟨tg, iter, ifs, 0⟩] scope pos) spos) (tAsg (tComp caps wi g tt te) (gName i)) := by
  intro pins s σ H D0 I h
  obtain ⟨cl, hC⟩ := clo_of I hcap
  rw [exec_Assign_Name_used _ _ _ _ hsw]
  refine wpAny_bind (wpAny_standAt (wpAny_bind ?_))
  show wpAny _ X.A (do let _ ← comprehension (.ListComp elt [⟨tg, iter, ifs, 0⟩] scope pos) scope X.env _ (newList []) false (eval iter X.env) (some (assign (.Name y py) X.env))) _ _ s
  refine wpAny_bind (wpAny_mono (wpAny_comprehension_free (use := some (assign (.Name y py) X.env)) (Q := fun _ s' => SP X pins D0 .next s') rfl hs hC.eq hkind (vis_free hcap).2.2
    (thn (hi pins s σ H _ I h) fun v s1 h1 => thn h1 fun itv s2 h2 => ?_)) (fun _ s' hq => wpAny_pure (wpAny_pure hq)) fun _ _ e => e)
  obtain ⟨it, fp, tn, J, H2, e, I2, T, st2, f2, q2⟩ := h2
  subst e
  refine comp_block (RR := fun acc C => compPost (model X.prog X.w) X.A X.xe (some (assign (.Name y py) X.env)) (fun _ s' => SP X pins D0 .next s') acc C) (Qe := fun D H' => gName i (.ref D) σ H' D0.nx) hc hcap hkind hC (hg pins cl) (ht pins cl) (he pins cl) I2 T st2 f2 q2 fun D C s' H' I' q' hDC hCo hCn hCs => ?_
  obtain ⟨o, m, ho, hd, hns⟩ := hCo
  have hCL : C ≠ X.env.locals := fun z => by
    have := I2.lt; rw [← z] at this; exact absurd (Nat.lt_of_lt_of_le this hCs) (Nat.lt_irrefl _)
  have hCc : ∀ x c, X.env.cells.lookup x = some c → c ≠ C := fun x c e z => by
    obtain ⟨v, q⟩ := I2.cell x c e
    exact absurd (Nat.lt_of_lt_of_le q.lt (by rw [z]; exact hCs)) (Nat.lt_irrefl _)
  have hCp : ∀ p ∈ X.pn ++ pins, p.1 ≠ C := fun p hp z => absurd (Nat.lt_of_lt_of_le (Heap.lt_size (I2.pin p hp).1) (by rw [z]; exact hCs)) (Nat.lt_irrefl _)
  have hC0 : X.s₀.heap.objs.size ≤ C := Nat.le_trans I2.sz hCs
  have hCf : C ∉ X.fs := I2.nofs hCs
  have I'' : Inv X (pins ++ [(C, o)]) σ H' s' := I'.pins_of fun p hp => (List.mem_append.mp hp).elim (fun z => I'.pin p (List.mem_append_right _ z)) fun z => by
    have e : p = (C, o) := by simpa using z
    subst e
    exact ⟨ho, hCn, hCL, hCf, hd⟩
  show wpAny _ X.A (assign (.Name y py) X.env (.ref D)) _ _ _
  refine wpAny_assign_Name (store_ok I'' hN hy hl (v := .ref D) rfl (fun s'' J' => ?_) hf)
  have hCo2 := (J'.pin (C, o) (List.mem_append_right _ (List.mem_append_right _ (by simp))))
  refine ⟨m, hns _ hCo2.1, fun h' hsb => ?_⟩
  obtain ⟨hp', g', d', t', os'⟩ := s''
  exact ⟨_, H', J'.unpinned.turned (t' := t') (it := C) (fun b o hb e => hsb.extBut b o hb e) hCo2.2.1 hCL (.inr hC0) hCc hCp, q'⟩
end
end L2

set_option Elab.async false
set_option maxRecDepth 100000
set_option maxHeartbeats 4000000
namespace L2
open PySem PySem.Spec PyProof.Rows
section
variable {X : Cx}
/-! ### isinstance against a builtin type -/
def isTy (t : String) (c : String) : Bool := t == c || (t == "bool" && c == "int")
theorem kit_ty {K : PySem.W.Frag} (t c : String) (ht : t ∈ ["NoneType", "bool", "int", "str", "list", "tuple", "dict"]) (hc : c ∈ ["bool", "int", "str", "list", "tuple", "dict"]) : PySem.W.kitOne K (.type t) (.type c) = some (isTy t c) := by
  simp only [List.mem_cons, List.not_mem_nil, or_false] at ht hc
  rcases ht with rfl | rfl | rfl | rfl | rfl | rfl | rfl <;> rcases hc with rfl | rfl | rfl | rfl | rfl | rfl <;> rfl
theorem call_isinstance : CallR X (.builtin "isinstance") (fun xs H Q => ∃ x t c, xs = [x, .ty c] ∧ TyOf X.K H x (.type t) ∧ t ∈ ["NoneType", "bool", "int", "str", "list", "tuple", "dict"] ∧ c ∈ ["bool", "int", "str", "list", "tuple", "dict"] ∧ Q (.bl (isTy t c)) H) := by
  intro pins s σ H xs us Q I r h
  obtain ⟨x, t, c, rfl, ty, ht, hc, q⟩ := h
  obtain ⟨u, w', rfl, rx, ry⟩ := vals2 r
  cases ry
  exact isinst_ok I rx ty (kit_ty t c ht hc) fun tk => ⟨.bl _, H, I.tok tk, rfl, q⟩
/-- a type's own name as a value -/
theorem pe_tyn {x : Str} {T : String} {pos : Pos} (hg : Gl X x) (hm : X.mg x = none) (hv : bootBuiltins x = some (.type T)) (hn : x ≠ "__name__" := by decide) (hd : (x == ("__debug__" : Str)) = false := by decide) : PE X (.Name x pos) (tC (.ty T)) :=
  pe_bltn hg hm hv rfl hn hd
/-! ### two lists of ints compared -/
end
end L2
namespace L2
open PySem PySem.Spec PyProof.Rows
section
variable {X : Cx}
theorem all_range_eq : ∀ (ns ms : List Int), ns.length = ms.length → ((List.range ns.length).all fun j => decide (ns.getD j 0 = ms.getD j 0)) = decide (ns = ms) := by
  intro ns ms hl
  by_cases h : ns = ms
  · subst h; simp
  · rw [decide_eq_false h]
    cases hc : ((List.range ns.length).all fun j => decide (ns.getD j 0 = ms.getD j 0)) with
    | false => rfl
    | true =>
      exfalso
      apply h
      rw [List.all_eq_true] at hc
      apply List.ext_getElem hl
      intro i h1 h2
      have := hc i (List.mem_range.mpr h1)
      have e := of_decide_eq_true this
      rw [List.getD_eq_getElem?_getD, List.getD_eq_getElem?_getD, List.getElem?_eq_getElem h1, List.getElem?_eq_getElem h2] at e
      exact e
theorem ints_at {ns : List Int} : ∀ {us : List Value}, IntsAre us ns → ∀ (j : Nat) (h : j < us.toArray.size), ∃ t, us.toArray[j] = .int (ns.getD j 0) t := by
  induction ns with
  | nil => intro us h j hj; cases h; simp at hj
  | cons n ns ih =>
    intro us h j hj
    cases h with
    | cons _ t h =>
      cases j with
      | zero => exact ⟨t, by simp⟩
      | succ j =>
        obtain ⟨t', e⟩ := ih h j (by simpa using hj)
        exact ⟨t', by simpa using e⟩
/-- == of two lists of ints -/
def rEqI (K : PySem.W.Frag) (neg : Bool) : R2 := fun x y H Q => ∃ (p q : Addr) (ns ms : List Int), x = .ref p ∧ y = .ref q ∧ SqL K H p (ns.map V.int) ∧ SqL K H q (ms.map V.int) ∧ Q (.bl (if neg then !decide (ns = ms) else decide (ns = ms))) H
theorem op_eqI {k : Nat} (hr : Room k X.A) : OpR X (compareOp .Eq) (rEqI X.K false) := by
  intro pins s σ H x y v u Q I rx ry h
  obtain ⟨p, q, ns, ms, rfl, rfl, h1, h2, qq⟩ := h
  cases rx; cases ry
  obtain ⟨its, r1, p1, _⟩ := I.list h1
  obtain ⟨its2, r2, p2, _⟩ := I.list h2
  have i1 := intsAre_of r1
  have i2 := intsAre_of r2
  have l1 := r1.length
  have l2 := r2.length
  rw [List.length_map] at l1 l2
  by_cases hl : ns.length = ms.length
  · refine SeqAt.eq_listAt (e := fun j => decide (ns.getD j 0 = ms.getD j 0)) p1.isList p2.isList (by simp only [List.size_toArray]; omega) hr.units0 (fun j a1 a2 => ?_) ?_
    · obtain ⟨t1, e1⟩ := ints_at i1 j a1
      obtain ⟨t2, e2⟩ := ints_at i2 j a2
      rw [e1, e2]
      have := SeqAt.EqAt.int_int (A := X.A.in1) (s := s) (ns.getD j 0) t1 (ms.getD j 0) t2
      rw [Bool.beq_eq_decide_eq] at this
      exact this
    · rw [show its.toArray.size = ns.length by simp only [List.size_toArray]; omega, all_range_eq ns ms hl]
      exact ⟨.bl _, H, I, rfl, qq⟩
  · refine SeqAt.eq_list_lengthsAt p1.isList p2.isList (by simp only [List.size_toArray, bne_iff_ne]; omega) hr.units0 ⟨.bl false, H, I, rfl, ?_⟩
    have : decide (ns = ms) = false := decide_eq_false fun e => hl (by rw [e])
    rw [this] at qq
    exact qq
/-! ### range by -1 -/
/-- hi, hi - 1, .. (n of them) -/
def Itd (hi : Int) (n : Nat) : It := ⟨fun i _ => i < n, fun i H x H' => H' = H ∧ x = .int (hi - i), fun i _ => n ≤ i⟩
theorem turn_down {P : Program} {w : World} {K : PySem.W.Frag} {tg : Expr} (it : Addr) (hi : Int) (n : Nat) : Turn P w K tg (Itd hi n) [it] it (fun i h => IsRangeIter h it (hi + (i : Nat) * -1) ((n : Int) - (i : Nat)) (-1)) where
  mem := by simp
  obj := fun i h st b hb => by
    have e : b = it := by simpa using hb
    subst e
    exact ⟨_, st, fun v z => by
      have z' : Data.fields _ = Data.cell v := z
      cases z'⟩
  keep := fun i h h' st k => k it (by simp) _ st
  item := by
    intro X hP hw hK hc i pins s σ H E I hf st hg
    subst hP hw hK
    obtain ⟨f0, f1, f2, f3, f4, f5⟩ := hf it (by simp)
    have W := Walks.range (prog := X.prog) (w := X.w) (I.ok.hd hc) it hi (-1) n
    refine W.item i s _ _ hg st fun v h' tk hv st' kk => ?_
    obtain ⟨t, rfl⟩ := hv
    have I1 : Inv X pins σ H { s with heap := h', toks := tk } := I.turned (fun b o hb e => kk b o (by simpa using hb) e) f0 f1 f3 f4 f5
    refine ⟨_, rfl, go_of (s := { s with heap := h', toks := tk }) (n := "range_iterator") st' rfl rfl (by decide) ⟨.int (hi - i), H, I1, ⟨t, ?_⟩, ⟨rfl, rfl⟩, st', fun b hb => (hf b hb).1⟩⟩
    congr 1; omega
  done := by
    intro X hP hw hK hc i pins s σ H E I hf st hg
    subst hP hw hK
    obtain ⟨f0, f1, f2, f3, f4, f5⟩ := hf it (by simp)
    exact wpAny_pyNext_range_end (I.ok.hd hc) st (by have : n ≤ i := hg; omega) fun h' eb => ⟨rfl, I.turned (t' := s.toks) (fun b o hb e => eb b o hb e) f0 f1 f3 f4 f5⟩
  self := fun _ _ _ _ _ st h => wpAny_pyIter_rangeiter st h
theorem rangeSize_down (a b : Int) : Builtin.Range.rangeSize a b (-1) = if b < a then a - b else 0 := by
  unfold Builtin.Range.rangeSize
  simp only [show ¬ ((-1 : Int) > 0) by decide, if_false]
  rw [show (- -1 : Int) = 1 by decide, Int.ediv_one]
  split <;> omega
theorem small_down {a b : Int} (ha : -(2 ^ 61) ≤ a) (ha' : a < 2 ^ 61) (hb : -(2 ^ 61) ≤ b) (hb' : b < 2 ^ 61) : Builtin.Range.small a b (-1) = true := by
  unfold Builtin.Range.small
  rw [rangeSize_down]
  simp only [Builtin.Range.rangeFitsLong, Bool.and_eq_true, Bool.or_eq_true, decide_eq_true_eq, beq_iff_eq, show ¬ ((-1 : Int) > 0) by decide, if_false]
  split <;> omega
def iRngD (ta : TA) : TI := fun σ H R => ta σ H fun vs H1 => ∃ i j : Int, vs = [.int i, .int j, .int (-1)] ∧ (-(2 ^ 61) ≤ i ∧ i < 2 ^ 61 ∧ -(2 ^ 61) ≤ j ∧ j < 2 ^ 61) ∧ R (Itd i (i - j).toNat) H1
theorem pi_down {tg a b c : Expr} {ta : TA} {p pos : Pos} (hg : Gl X "range") (hm : X.mg "range" = none) (ha : PA X [a, b, c] ta) (hs : starEach [a, b, c] X.env = [(false, eval a X.env), (false, eval b X.env), (false, eval c X.env)] := by rfl) (hs2 : starEach [b, c] X.env = [(false, eval b X.env), (false, eval c X.env)] := by rfl) :
    PI X tg (.Call (.Name "range" p) [a, b, c] [] pos) (iRngD ta) := by
  intro pins s σ H R I h
  refine Call_ (ld_blt I hg hm boot_range (PyProof.Rows.callWith_type1 (thn (ha pos pins s σ H _ I h) fun us s1 ⟨vs, H1, I1, r1, q1⟩ => ?_) (by rw [hs, hs2]) (by rw [hs2]; rfl)))
  obtain ⟨i, j, e, ⟨q1, q2, q3, q4⟩, q⟩ := q1
  subst e
  cases r1 with
  | cons r rr =>
    cases rr with
    | cons r' rr =>
      cases rr with
      | cons r'' rr =>
        cases rr
        obtain ⟨t, rfl⟩ := r
        obtain ⟨t', rfl⟩ := r'
        obtain ⟨t'', rfl⟩ := r''
        refine call_range_3 (by decide) ?_ (.inl (PyProof.noPylong_small (by decide)))
        refine wpAny_pyIter_range (IsRange.new ..) (small_down q1 q2 q3 q4) ?_
        have I2 : Inv X pins σ H1 { s1 with heap := s1.heap.push { cls := .type "range", data := .fields #[.int i t, .int j t', .int (-1) t''] }, toks := s1.toks } := I1.kept fun b o e => Heap.get?_push_of_some _ e
        refine ⟨(s1.heap.push { cls := .type "range", data := .fields #[.int i t, .int j t', .int (-1) t''] }).objs.size, [(s1.heap.push { cls := .type "range", data := .fields #[.int i t, .int j t', .int (-1) t''] }).objs.size], _, _, H1, rfl,
          I2.kept (t' := s1.toks) fun b o e => Heap.get?_push_of_some _ e, turn_down _ i (i - j).toNat, ?_, fun b hb => ?_, q⟩
        · have e1 : i + ((0 : Nat) : Int) * -1 = i := by simp
          have e2 : (((i - j).toNat : Nat) : Int) - ((0 : Nat) : Int) = Builtin.Range.rangeSize i j (-1) := by rw [rangeSize_down]; split <;> omega
          show IsRangeIter _ _ (i + ((0 : Nat) : Int) * -1) ((((i - j).toNat : Nat) : Int) - ((0 : Nat) : Int)) (-1)
          rw [e1, e2]
          exact Heap.get?_push_size _ rfl
        · have e : b = (s1.heap.push { cls := .type "range", data := .fields #[.int i t, .int j t', .int (-1) t''] }).objs.size := by simpa using hb
          subst e
          exact I2.fpOk (Nat.le_refl _) (I2.hok.fresh (Nat.le_refl _))
theorem for_down {hi : Int} {n : Nat} {g : TG} {tb : TS} {D : Ends} {σ : St} {H : Hp} (Pv : Nat → St → Hp → Prop) (h0 : Pv 0 σ H)
    (hs : ∀ i σ H, i < n → Pv i σ H → g (.int (hi - i)) σ H fun σ2 H2 => tb { D with nx := Pv (i + 1), ct := Pv (i + 1), bk := D.nx } σ2 H2) (hd : ∀ σ H, Pv n σ H → D.nx σ H) :
    ∃ W : Nat → Nat → St → Hp → Prop, (∃ m, W 0 m σ H) ∧ ∀ i m σ H, W i m σ H →
      ((Itd hi n).stop i H ∧ D.nx σ H) ∨ ((Itd hi n).go i H ∧ ∃ N : St → Hp → Prop, (∀ σ' H', N σ' H' → ∃ m', m' < m ∧ W (i + 1) m' σ' H') ∧ ∀ x H', (Itd hi n).yld i H x H' → g x σ H' fun σ2 H2 => tb { D with nx := N, ct := N, bk := D.nx } σ2 H2) := by
  refine ⟨fun i m σ H => m = n - i ∧ i ≤ n ∧ Pv i σ H, ⟨n, by simp, Nat.zero_le _, h0⟩, ?_⟩
  rintro i m σ H ⟨rfl, hi, p⟩
  by_cases hlt : i < n
  · refine .inr ⟨hlt, Pv (i + 1), fun σ' H' p' => ⟨n - (i + 1), by omega, rfl, hlt, p'⟩, fun x H' y => ?_⟩
    obtain ⟨e, y⟩ := y
    subst e y
    exact hs i σ _ hlt p
  · have e : i = n := by omega
    subst e
    exact .inl ⟨Nat.le_refl _, hd σ H p⟩
/-! ### the forms of a comprehension that one uses -/
theorem comp_range {lo : Int} {n : Nat} {D : Addr} {g : TG} {tt : TT} {te : TE} {σ0 : St} {H0 : Hp} {Q : Hp → Prop} (Pv : Nat → St → Hp → Prop) (h0 : Pv 0 σ0 H0)
    (hs : ∀ i σ H, i < n → Pv i σ H → g (.int (lo + i)) σ H fun σ2 H3 => tt σ2 H3 fun b H4 => if b = true then te σ2 H4 fun v H5 => ∃ ys, H5 D = some (.lst ys) ∧ ys.length < sizeLine ∧ Pv (i + 1) σ2 (upd H5 D (.lst (ys ++ [v]))) else Pv (i + 1) σ2 H4)
    (hd : ∀ σ H, Pv n σ H → Q H) : compRead (Itr lo n) D g tt te σ0 H0 Q := by
  refine ⟨fun i m σ H => m = n - i ∧ i ≤ n ∧ Pv i σ H, ⟨n, by simp, Nat.zero_le _, h0⟩, ?_⟩
  rintro i m σ H ⟨rfl, hi, p⟩
  by_cases hlt : i < n
  · refine .inr ⟨hlt, Pv (i + 1), fun σ' H' p' => ⟨n - (i + 1), by omega, rfl, hlt, p'⟩, fun x H' y => ?_⟩
    obtain ⟨e, y⟩ := y
    subst e y
    exact hs i σ _ hlt p
  · have e : i = n := by omega
    subst e
    exact .inl ⟨Nat.le_refl _, hd σ H p⟩
theorem comp_list {K : PySem.W.Frag} {a : Addr} {xs : List V} {D : Addr} {g : TG} {tt : TT} {te : TE} {σ0 : St} {H0 : Hp} {Q : Hp → Prop} (Pv : Nat → St → Hp → Prop) (h0 : Pv 0 σ0 H0) (hl : ∀ i σ H, i ≤ xs.length → Pv i σ H → SqL K H a xs)
    (hs : ∀ i x σ H, xs[i]? = some x → Pv i σ H → g x σ H fun σ2 H3 => tt σ2 H3 fun b H4 => if b = true then te σ2 H4 fun v H5 => ∃ ys, H5 D = some (.lst ys) ∧ ys.length < sizeLine ∧ Pv (i + 1) σ2 (upd H5 D (.lst (ys ++ [v]))) else Pv (i + 1) σ2 H4)
    (hd : ∀ σ H, Pv xs.length σ H → Q H) : compRead (Itl K a) D g tt te σ0 H0 Q := by
  refine ⟨fun i m σ H => m = xs.length - i ∧ i ≤ xs.length ∧ Pv i σ H, ⟨xs.length, by simp, Nat.zero_le _, h0⟩, ?_⟩
  rintro i m σ H ⟨rfl, hi, p⟩
  have q := hl i σ H hi p
  by_cases hlt : i < xs.length
  · refine .inr ⟨⟨xs, xs[i], q, by simp [hlt]⟩, Pv (i + 1), fun σ' H' p' => ⟨xs.length - (i + 1), by omega, rfl, hlt, p'⟩, fun x H' y => ?_⟩
    obtain ⟨e, y⟩ := y
    subst e
    exact hs i x σ _ (y xs q) p
  · have e : i = xs.length := by omega
    subst e
    exact .inl ⟨⟨xs, q, Nat.le_refl _⟩, hd σ H p⟩
end
end L2

set_option Elab.async false
set_option maxRecDepth 100000
set_option maxHeartbeats 4000000
namespace L2
open PySem PySem.Spec PyProof.Rows
/-! ### enumerate over a list -/
section
variable {X : Cx}
theorem boot_enum : bootBuiltins "enumerate" = some (.type "enumerate") := by decide +kernel
end
end L2

set_option Elab.async false
set_option maxRecDepth 100000
set_option maxHeartbeats 4000000
namespace L2
open PySem PySem.Spec PyProof.Rows
/-! ### list(enumerate(list)) -/
section
variable {prog : Program} {w : World} {A : Around} {E : Value → Shared → Prop} {s : Shared}
/-- an enumerate whose tuple at a is out -/
def EnX (h : Heap) (e it : Addr) (i : Int) (old : Value) (a : Addr) (f : Bool) : Prop :=
  h.get? e = some { cls := .type "enumerate", dict := none, data := .fields #[rawInt a, .bool f, .ref it, rawInt i, .none, old], slots := #[] }
theorem fld {e : Addr} {vs : Array Value} {n : Nat} {x : Value} {Q : Value → Shared → Prop} (he : s.heap.get? e = some { cls := .type "enumerate", dict := none, data := .fields vs, slots := #[] }) (hx : vs[n]? = some x) (h : Q x s) :
    wpAny (model prog w) A (field (.ref e) n) Q E s := wpAny_field he rfl hx h
theorem enx_next {e it l a : Addr} {i : Nat} {items : Array Value} {x old : Value} {f : Bool} {oa : Obj} {Q : Option Value → Shared → Prop} (he : EnX s.heap e it i old a f) (ha : s.heap.get? a = some oa) (hae : a ≠ e) (hai : a ≠ it)
    (hit : s.heap.IsListIter it l i) (hl : s.heap.IsList l items) (hx : items[i]? = some x) (hne : e ≠ it)
    (hQ : ∀ h', EnX h' e it ((i : Int) + 1) old a true → h'.IsListIter it l (i + 1) → h'.get? s.heap.objs.size = some { cls := .type "tuple", data := .seq #[.int i s.toks, x] } → h'.objs.size = s.heap.objs.size + 1 →
      (∀ b o, b ≠ e → b ≠ it → s.heap.get? b = some o → h'.get? b = some o) → Q (some (.ref s.heap.objs.size)) { s with heap := h', toks := s.toks + 1 }) :
    wpAny (model prog w) A (pyNext (.ref e)) Q E s := by
  obtain ⟨hp, gg, dd, tk, oo⟩ := s
  have ty : Shared.TypeIs ⟨hp, gg, dd, tk, oo⟩ (.ref e) "enumerate" := ⟨_, he, rfl⟩
  unfold pyNext
  refine wpAny_bind (wpAny_attempt (wpAny_callSpecial?_slot (name := Str.ofString "__next__") ty F.slot_enumerate_next (wpAny_call_entry F.slot_enumerate_next ty F.entry_enumerate_next ?_ (F.args_enumerate_next_1 _))))
  show wpAny _ _ (field (.ref e) 2 >>= _) _ _ _
  refine wpAny_bind (fld he (x := .ref it) rfl (wpAny_bind (wpAny_nextOf_list_item hit hl hx fun k1 j1 sb1 => ?_)))
  have sb1' : Heap.SameBut it hp k1 := sb1
  have e1 : EnX k1 e it i old a f := (sb1'.2 e hne).trans he
  show wpAny _ _ (field (.ref e) 3 >>= _) _ _ ⟨k1, gg, dd, tk, oo⟩
  refine wpAny_bind (fld e1 (x := rawInt i) rfl (wpAny_bind (fld e1 (x := .none) rfl ?_)))
  show wpAny _ _ (mkInt i >>= _) _ _ ⟨k1, gg, dd, tk, oo⟩
  refine wpAny_bind (wpAny_mkInt ?_)
  show wpAny _ _ (setField (.ref e) 3 (rawInt ((i : Int) + 1)) >>= _) _ _ ⟨k1, gg, dd, tk + 1, oo⟩
  refine wpAny_bind (wpAny_setField_rec e1 (by simp) fun k2 e2 sb2 => ?_)
  have sb2' : Heap.SameBut e k1 k2 := sb2
  have e2' : EnX k2 e it ((i : Int) + 1) old a f := e2
  show wpAny _ _ (setField (.ref e) 4 .none >>= _) _ _ ⟨k2, gg, dd, tk + 1, oo⟩
  refine wpAny_bind (wpAny_setField_rec e2' (by simp) fun k3 e3 sb3 => ?_)
  have sb3' : Heap.SameBut e k2 k3 := sb3
  have e3' : EnX k3 e it ((i : Int) + 1) old a f := e3
  show wpAny _ _ (newTuple [.int i tk, x] >>= _) _ _ ⟨k3, gg, dd, tk + 1, oo⟩
  refine wpAny_bind (wpAny_newTuple ?_)
  have z3 : k3.objs.size = hp.objs.size := by rw [sb3'.1, sb2'.1, sb1'.1]
  have elt : e < hp.objs.size := Heap.lt_size he
  have kp : ∀ b o, b ≠ e → b ≠ it → hp.get? b = some o → k3.get? b = some o := fun b o b1 b2 q => sb3'.extBut b o b1 (sb2'.extBut b o b1 (sb1'.extBut b o b2 q))
  have fin : ∀ k5 : Heap, EnX k5 e it ((i : Int) + 1) old a true → Heap.SameBut e (k3.push { cls := .type "tuple", data := .seq #[.int i tk, x] }) k5 → Q (some (.ref hp.objs.size)) ⟨k5, gg, dd, tk + 1, oo⟩ := fun k5 e5 sb5 => by
    refine hQ k5 e5 ?_ (sb5.extBut _ _ (Nat.ne_of_gt elt) (by rw [← z3]; exact Heap.get?_push_size _ rfl)) (by rw [sb5.1, Heap.size_push, z3]) fun b o b1 b2 q => sb5.extBut b o b1 (Heap.get?_push_of_some _ (kp b o b1 b2 q))
    obtain ⟨o, ho, r⟩ := (j1.extBut sb2'.extBut (Ne.symm hne)).extBut sb3'.extBut (Ne.symm hne)
    exact ⟨o, sb5.extBut it o (Ne.symm hne) (Heap.get?_push_of_some _ ho), r⟩
  have e4 : EnX (k3.push { cls := .type "tuple", data := .seq #[.int i tk, x] }) e it ((i : Int) + 1) old a f := Heap.get?_push_of_some _ e3'
  have a4 : (k3.push { cls := .type "tuple", data := .seq #[.int i tk, x] }).get? a = some oa := Heap.get?_push_of_some _ (kp a oa hae hai ha)
  show wpAny _ _ (Builtin.SmallTypes.ownedTupleIsFree (.ref e) >>= _) _ _ ⟨k3.push { cls := .type "tuple", data := .seq #[.int i tk, x] }, gg, dd, tk + 1, oo⟩
  rw [z3]
  refine wpAny_bind ?_
  unfold Builtin.SmallTypes.ownedTupleIsFree
  refine wpAny_bind (fld e4 (x := rawInt a) rfl ?_)
  show wpAny _ _ (loadIfAlive ((a : Int).toNat) >>= _) _ _ _
  rw [Int.toNat_natCast]
  refine wpAny_bind (PySem.W.kdx_alive a4 ?_)
  simp only [Option.isNone_some, Bool.false_eq_true, if_false]
  refine wpAny_bind (fld e4 (x := .bool f) rfl ?_)
  cases f with
  | true => exact wpAny_pure (wpAny_pure ⟨_, rfl, wpAny_pure (fin _ e4 (Heap.SameBut.refl _ _))⟩)
  | false => exact wpAny_bind (wpAny_setField_rec e4 (by simp) fun k5 e5 sb5 => wpAny_pure (wpAny_pure ⟨_, rfl, wpAny_pure (fin k5 e5 sb5)⟩))
theorem enx_end {e it l a : Addr} {i : Nat} {items : Array Value} {old : Value} {f : Bool} {Q : Option Value → Shared → Prop} (hh : A.handled = none) (he : EnX s.heap e it i old a f)
    (hit : s.heap.IsListIter it l i) (hl : s.heap.IsList l items) (hx : items[i]? = none) (hQ : ∀ h', Heap.ExtBut it s.heap h' → Q none { s with heap := h' }) : wpAny (model prog w) A (pyNext (.ref e)) Q E s := by
  have ty : s.TypeIs (.ref e) "enumerate" := ⟨_, he, rfl⟩
  unfold pyNext
  refine wpAny_bind (wpAny_attempt (wpAny_callSpecial?_slot (name := Str.ofString "__next__") ty F.slot_enumerate_next (wpAny_call_entry F.slot_enumerate_next ty F.entry_enumerate_next ?_ (F.args_enumerate_next_1 _))))
  show wpAny _ _ (field (.ref e) 2 >>= _) _ _ _
  refine wpAny_bind (fld he (x := .ref it) rfl (wpAny_bind (wpAny_nextOf_list_end hh hit hl hx fun h' y q1 q2 => ?_)))
  obtain ⟨o, ho, hc⟩ := q2
  exact wpAny_bind (wpAny_isInstance (T := "StopIteration") (b := true) ⟨o, ho, hc⟩ isSubtype_stop (wpAny_pure (hQ _ q1)))
end
end L2
namespace L2
open PySem PySem.Spec PyProof.Rows
/-- the enumerate at turn i; its tuples are not the list S that is filled -/
def EnSt (h : Heap) (e it l S : Addr) (i : Nat) : Prop :=
  ((i = 0 ∧ ∃ old, IsEnum h e it 0 old) ∨ ∃ old a f oa, EnX h e it i old a f ∧ h.get? a = some oa ∧ a ≠ e ∧ a ≠ it ∧ a ≠ S) ∧ h.IsListIter it l i
/-- the pairs told so far, all above lo -/
def EnTs (h : Heap) (items : Array Value) (lo : Nat) (as : List Addr) : Prop :=
  as.Pairwise (· < ·) ∧ ∀ (j : Nat) (a : Addr), as[j]? = some a → lo ≤ a ∧ ∃ t x, items[j]? = some x ∧ h.get? a = some { cls := .type "tuple", data := .seq #[.int j t, x] }
section
variable {prog : Program} {w : World} {A : Around} {s : Shared} {R : Result → Shared → Prop}
theorem en_loop {S e it l : Addr} {items : Array Value} {lo : Nat} {h1 : Heap} (hh : A.handled = none) (hne : e ≠ it) (hSe : S ≠ e) (hSi : S ≠ it) (hlS : l ≠ S) (hle : l ≠ e) (hli : l ≠ it) (hn : items.size ≤ sizeLine) (heL : e < lo) (hiL : it < lo) (hSL : S < lo) (res : Value)
    (hR : ∀ h' tk c as, (∀ b o, b ≠ S → b ≠ e → b ≠ it → h1.get? b = some o → h'.get? b = some o) → h'.get? S = some { cls := .type "list", dict := none, data := .seq (as.map Value.ref).toArray c, slots := #[] } → as.length = items.size → EnTs h' items lo as → R (.ok (.ret res)) { s with heap := h', toks := tk }) :
    ∀ (k i : Nat) (h : Heap) (tk c : Nat) (as : List Addr), items.size - i = k → i ≤ items.size → EnSt h e it l S i → h.IsList l items → (∀ b o, b ≠ S → b ≠ e → b ≠ it → h1.get? b = some o → h.get? b = some o) →
      h.get? S = some { cls := .type "list", dict := none, data := .seq (as.map Value.ref).toArray c, slots := #[] } → as.length = i → EnTs h items lo as → lo ≤ h.objs.size →
      codeAny (model prog w) A (.builtin "list.extend.loop" ⟨[.ref S, .ref e, res], []⟩) R { s with heap := h, toks := tk } := by
  intro k
  induction k with
  | zero =>
    intro i h tk c as hk hi hst hl kp hS hal hG hlo
    have hx : items[i]? = none := by simp; omega
    refine codeAny_builtin F.entry_extend_loop ?_
    rw [Around.under_plainId F.plain_extend_loop _]
    show wpAny _ A.in1 (pyNext (.ref e) >>= _) _ _ _
    have fin : ∀ h', Heap.ExtBut it h h' → R (.ok (.ret res)) { s with heap := h', toks := tk } := fun h' eb =>
      hR h' tk c as (fun b o a1 a2 a3 q => eb b o a3 (kp b o a1 a2 a3 q)) (eb S _ hSi hS) (by omega) ⟨hG.1, fun j a q => by
        obtain ⟨z1, t, x, z2, z3⟩ := hG.2 j a q
        exact ⟨z1, t, x, z2, eb a _ (Nat.ne_of_gt (Nat.lt_of_lt_of_le hiL z1)) z3⟩⟩
    obtain ⟨h0, hit⟩ := hst
    rcases h0 with ⟨rfl, old, he⟩ | ⟨old, a, f, oa, he, _⟩
    · exact wpAny_bind (wpAny_pyNext_enum_end (s := { s with heap := h, toks := tk }) (A := A.in1) hh he hit hl hx fun h' eb => wpAny_pure (fin h' eb))
    · exact wpAny_bind (enx_end (s := { s with heap := h, toks := tk }) (A := A.in1) hh he hit hl hx fun h' eb => wpAny_pure (fin h' eb))
  | succ k ih =>
    intro i h tk c as hk hi hst hl kp hS hal hG hlo
    have hlt : i < items.size := by omega
    obtain ⟨x, hx⟩ : ∃ x, items[i]? = some x := ⟨items[i], by simp [hlt]⟩
    refine codeAny_builtin F.entry_extend_loop ?_
    rw [Around.under_plainId F.plain_extend_loop _]
    show wpAny _ A.in1 (pyNext (.ref e) >>= _) _ _ _
    have hSz : S < h.objs.size := Heap.lt_size hS
    have nxt : ∀ h', (∃ old a f oa, EnX h' e it ((i : Int) + 1) old a f ∧ h'.get? a = some oa ∧ a ≠ e ∧ a ≠ it ∧ a ≠ S) → h'.IsListIter it l (i + 1) → h'.get? h.objs.size = some { cls := .type "tuple", data := .seq #[.int i tk, x] } → h'.objs.size = h.objs.size + 1 →
        (∀ b o, b ≠ e → b ≠ it → h.get? b = some o → h'.get? b = some o) → wpAny (model prog w) A.in1 (updateSeq S (·.push (Value.ref h.objs.size)) >>= fun _ => again (.builtin "list.extend.loop" ⟨[.ref S, .ref e, res], []⟩))
          (fun fin s' => match fin with | .done f => R (.ok f) s' | .again c' => c'.quiet = true ∧ codeAny (model prog w) A c' R s') (fun x s' => R (.error x) s') { s with heap := h', toks := tk + 1 } := by
      intro h' hX hit' ht hz hk'
      have hS' := hk' S _ hSe hSi hS
      have up : ∀ b o, b ≠ S → h'.get? b = some o → (h'.update S (Obj.mapSeq (·.push (Value.ref h.objs.size)))).get? b = some o := fun b o hb q => (Heap.get?_update_other _ _ (Ne.symm hb)).trans q
      have hasz : (as.map Value.ref).toArray.size = i := by simp [hal]
      refine wpAny_bind (wpAny_updateSeq hS' rfl (wpAny_pure ⟨plainId_quiet F.plain_extend_loop _, ?_⟩) (by rw [hasz]; omega) (by rw [Array.size_push, hasz]; omega))
      have hS2 := Heap.get?_update_self (Obj.mapSeq (·.push (Value.ref h.objs.size))) hS' rfl
      refine ih (i + 1) _ (tk + 1) _ (as ++ [h.objs.size]) (by omega) hlt ?_ ?_ ?_ (by rw [hS2]; simp [Obj.mapSeq]; exact rfl) (by simp [hal]) ?_ ?_
      · obtain ⟨old, a, f, oa, q1, q2, q3, q4, q5⟩ := hX
        refine ⟨.inr ⟨old, a, f, oa, ?_, up a _ q5 q2, q3, q4, q5⟩, hit'.at fun o q => up it o (Ne.symm hSi) q⟩
        have e' : ((i + 1 : Nat) : Int) = (i : Int) + 1 := by omega
        rw [e']
        exact up e _ (Ne.symm hSe) q1
      · exact (hl.at fun o q => hk' l o hle hli q).at fun o q => up l o hlS q
      · exact fun b o a1 a2 a3 q => up b o a1 (hk' b o a2 a3 (kp b o a1 a2 a3 q))
      · refine ⟨List.pairwise_append.mpr ⟨hG.1, List.pairwise_singleton _ _, fun a ha b hb => ?_⟩, fun j a q => ?_⟩
        · rw [List.mem_singleton.mp hb]
          obtain ⟨j, hj⟩ := List.mem_iff_getElem?.mp ha
          obtain ⟨_, _, _, _, z⟩ := hG.2 j a hj
          exact Heap.lt_size z
        · rcases Nat.lt_trichotomy j as.length with c1 | c1 | c1
          · rw [List.getElem?_append_left c1] at q
            obtain ⟨z1, t, y, z2, z3⟩ := hG.2 j a q
            exact ⟨z1, t, y, z2, up a _ (Nat.ne_of_gt (Nat.lt_of_lt_of_le hSL z1)) (hk' a _ (Nat.ne_of_gt (Nat.lt_of_lt_of_le heL z1)) (Nat.ne_of_gt (Nat.lt_of_lt_of_le hiL z1)) z3)⟩
          · subst c1
            have ea : h.objs.size = a := by simpa using q
            subst ea
            exact ⟨hlo, tk, x, by rw [hal]; exact hx, by rw [hal]; exact up _ _ (Nat.ne_of_gt hSz) ht⟩
          · rw [List.getElem?_eq_none (by simp; omega)] at q
            cases q
      · rw [Heap.size_update, hz]; omega
    have elt : e < h.objs.size := Nat.lt_of_lt_of_le heL hlo
    have ilt : it < h.objs.size := Nat.lt_of_lt_of_le hiL hlo
    obtain ⟨h0, hit⟩ := hst
    rcases h0 with ⟨rfl, old, he⟩ | ⟨old, a, f, oa, he, q2, q3, q4, q5⟩
    · exact wpAny_bind (wpAny_pyNext_enum_item (s := { s with heap := h, toks := tk }) (A := A.in1) he hit hl hx hne fun h' b1 b2 b3 b4 b5 => nxt h' ⟨x, _, false, _, b1, b3, Nat.ne_of_gt elt, Nat.ne_of_gt ilt, Nat.ne_of_gt hSz⟩ b2 b3 b4 b5)
    · exact wpAny_bind (enx_next (s := { s with heap := h, toks := tk }) (A := A.in1) he q2 q3 q4 hit hl hx hne fun h' b1 b2 b3 b4 b5 => nxt h' ⟨old, a, true, oa, b1, b5 a oa q3 q4 q2, q3, q4, q5⟩ b2 b3 b4 b5)
end
theorem enum_no_len : typeLookup (.type "enumerate") "__len__" = pure none := by rw [typeLookup_type, builtinLookup_eq_fast]; kernel_rfl
theorem enum_no_hint : typeLookup (.type "enumerate") "__length_hint__" = pure none := by rw [typeLookup_type, builtinLookup_eq_fast]; kernel_rfl
section
variable {prog : Program} {w : World} {A : Around} {E : Value → Shared → Prop} {s : Shared}
/-- list(e), e a new enumerate of the list at l -/
theorem call_list_enum {e it l : Addr} {items : Array Value} {Q : Value → Shared → Prop} (hh : A.handled = none) (he : IsEnum s.heap e it 0 .none) (hit : s.heap.IsListIter it l 0) (hl : s.heap.IsList l items) (hne : e ≠ it) (hle : l ≠ e) (hli : l ≠ it) (hn : items.size ≤ sizeLine)
    (hQ : ∀ h' tk c as, (∀ b o, b ≠ e → b ≠ it → s.heap.get? b = some o → h'.get? b = some o) → h'.get? s.heap.objs.size = some { cls := .type "list", dict := none, data := .seq (as.map Value.ref).toArray c, slots := #[] } → as.length = items.size → EnTs h' items (s.heap.objs.size + 1) as →
      Q (.ref s.heap.objs.size) { s with heap := h', toks := tk }) : wpAny (model prog w) A (call (.type "list") [.ref e]) Q E s := by
  have elt : e < s.heap.objs.size := Heap.lt_size he
  have ilt : it < s.heap.objs.size := by obtain ⟨o, q, _⟩ := hit; exact Heap.lt_size q
  have llt : l < s.heap.objs.size := by obtain ⟨o, q, _⟩ := hl; exact Heap.lt_size q
  refine callType_codes (Q₁ := fun ob s1 => ob = .ref s.heap.objs.size ∧ s1 = { s with heap := s.heap.push { cls := .type "list", data := .seq #[] } }) F.called_list (F.typeCall_list_1 _) F.entry_list_init (code_list_new _ ⟨rfl, rfl⟩) fun ob s1 q1 => ?_
  obtain ⟨rfl, rfl⟩ := q1
  have hS : (s.heap.push { cls := .type "list", data := .seq #[] }).get? s.heap.objs.size = some { cls := .type "list", data := .seq #[] } := Heap.get?_push_size _ rfl
  refine ⟨⟨_, hS, rfl⟩, F.args_list_init_2 _ _, ?_⟩
  show wpAny _ A.in1.in1 (do let old ← Builtin.List.listItems (.ref s.heap.objs.size); Builtin.List.listUpdate (.ref s.heap.objs.size) (fun _ => #[]); letGo old.toList.reverse; Builtin.List.listExtendWith (.ref s.heap.objs.size) (.ref e) .none) _ _ _
  refine wpAny_bind (listItems_at hS rfl (wpAny_bind (listUpdate_at hS rfl (wpAny_bind (wpAny_letGo ?_)))))
  have hS2 := Heap.get?_update_self (Obj.mapSeq (fun _ => (#[] : Array Value))) hS rfl
  have oth : ∀ b o, b < s.heap.objs.size → s.heap.get? b = some o → ((s.heap.push { cls := .type "list", data := .seq #[] }).update s.heap.objs.size (Obj.mapSeq (fun _ => (#[] : Array Value)))).get? b = some o :=
    fun b o hb q => (Heap.get?_update_other _ _ (Nat.ne_of_gt hb)).trans (Heap.get?_push_of_some _ q)
  have hz : ((s.heap.push { cls := .type "list", data := .seq #[] }).update s.heap.objs.size (Obj.mapSeq (fun _ => (#[] : Array Value)))).objs.size = s.heap.objs.size + 1 := by rw [Heap.size_update, Heap.size_push]
  generalize hH : (s.heap.push { cls := .type "list", data := .seq #[] }).update s.heap.objs.size (Obj.mapSeq (fun _ => (#[] : Array Value))) = h2 at hS2 oth hz ⊢
  have he2 : IsEnum h2 e it 0 .none := oth e _ elt he
  have hT : Shared.TypeIs { s with heap := h2 } (.ref e) "enumerate" := ⟨_, he2, rfl⟩
  unfold Builtin.List.listExtendWith
  refine wpAny_bind (wpAny_typeOf hT ?_)
  have c1 : Builtin.List.listSameRef (.ref s.heap.objs.size) (.ref e) = false := by simp [Builtin.List.listSameRef]; exact Nat.ne_of_gt elt
  simp only [c1, show (Value.type "enumerate" == Value.type "list") = false by decide, show (Value.type "enumerate" == Value.type "tuple") = false by decide, Bool.or_false, Bool.false_eq_true, if_false]
  refine wpAny_bind (wpAny_pyIter_enum he2 (wpAny_bind (wpAny_holding ?_)))
  unfold Builtin.List.listLengthHint
  refine wpAny_bind (wpAny_specialOf hT enum_no_len ?_)
  show wpAny _ _ (specialOf (Value.ref e) (Str.ofString "__length_hint__") >>= _) _ _ _
  refine wpAny_bind (wpAny_specialOf hT enum_no_hint (wpAny_pure ?_))
  show wpAny _ _ (rule "list.extend.makes-room" >>= fun _ => Builtin.List.listTouch (.ref s.heap.objs.size) >>= fun _ => again (.builtin "list.extend.loop" ⟨[.ref s.heap.objs.size, .ref e, .none], []⟩)) _ _ _
  refine wpAny_bind (wpAny_rule (wpAny_bind ?_))
  show wpAny _ _ (updateSeq s.heap.objs.size (·.push .none) >>= fun _ => updateSeq s.heap.objs.size (·.pop)) _ _ _
  refine wpAny_bind (wpAny_updateSeq hS2 rfl ?_ (by simp) (by rw [sizeLine_eq]; decide))
  have hS3 := Heap.get?_update_self (Obj.mapSeq (·.push Value.none)) hS2 rfl
  refine wpAny_updateSeq hS3 rfl ?_ (by rw [sizeLine_eq]; decide) (by rw [sizeLine_eq]; decide)
  have hS4 := Heap.get?_update_self (Obj.mapSeq (·.pop)) hS3 rfl
  have oth2 : ∀ b o, b < s.heap.objs.size → s.heap.get? b = some o → ((h2.update s.heap.objs.size (Obj.mapSeq (·.push Value.none))).update s.heap.objs.size (Obj.mapSeq (·.pop))).get? b = some o :=
    fun b o hb q => (Heap.get?_update_other _ _ (Nat.ne_of_gt hb)).trans ((Heap.get?_update_other _ _ (Nat.ne_of_gt hb)).trans (oth b o hb q))
  refine wpAny_pure ⟨plainId_quiet F.plain_extend_loop _, ?_⟩
  refine en_loop (A := A.in1) (R := wants (fun r s2 => r = .none ∧ Q (.ref s.heap.objs.size) s2) E) (s := s) (h1 := s.heap) (lo := s.heap.objs.size + 1) (e := e) (it := it) (l := l) (items := items) hh hne (Nat.ne_of_gt elt) (Nat.ne_of_gt ilt) (Nat.ne_of_lt llt) hle hli hn (Nat.lt_succ_of_lt elt) (Nat.lt_succ_of_lt ilt) (Nat.lt_succ_self _) .none
    (fun h' tk c as k1 k2 k3 k4 => ⟨rfl, hQ h' tk c as (fun b o b1 b2 q => k1 b o (Nat.ne_of_lt (Heap.lt_size q)) b1 b2 q) k2 k3 k4⟩) items.size 0 _ _ _ [] (Nat.sub_zero _) (Nat.zero_le _) ⟨.inl ⟨rfl, .none, oth2 e _ elt he⟩, hit.at fun o q => oth2 it o ilt q⟩
    (hl.at fun o q => oth2 l o llt q) (fun b o _ _ _ q => oth2 b o (Heap.lt_size q) q) (by rw [hS4]; rfl) rfl ⟨List.Pairwise.nil, fun j a q => by simp at q⟩ (by rw [Heap.size_update, Heap.size_update, hz]; exact Nat.le_refl _)
end
end L2
namespace L2
open PySem PySem.Spec PyProof.Rows
section
variable {X : Cx} {pins : List (Addr × Obj)} {σ : St} {H H' : Hp} {s : Shared} {h' : Heap}
/-- new objects are tracked, all elder ones are kept -/
theorem Inv.grow {t' : Nat} (I : Inv X pins σ H s) (k : ∀ b u, s.heap.get? b = some u → h'.get? b = some u) (e : ∀ b, b < s.heap.objs.size → H' b = H b) (new : ∀ b o, s.heap.objs.size ≤ b → H' b = some o → ObjOk X.prog X.w H' h' b o) :
    Inv X pins σ H' { s with heap := h', toks := t' } := by
  have up : ∀ b o, H b = some o → H' b = some o := fun b o q => by rw [e b (I.hok.lt q)]; exact q
  refine I.un ⟨fun b o q _ _ _ => k b o q, fun b o q _ _ _ => ⟨o.slots, k b o q⟩, fun b o q n _ => by rw [e b (Heap.lt_size q)]; exact n, fun b o q _ => ⟨o, k b o q⟩, fun b xs q => up b _ q, fun b o u q => up b _ q, fun b ps q => ⟨#[], by rw [up b _ q]; simp⟩⟩ fun b o q => ?_
  by_cases hb : b < s.heap.objs.size
  · rw [e b hb] at q
    exact (I.hok b o q).stay (fun c u _ q' => k c u q') (fun c q' => up c _ q') fun c xs q' => up c _ q'
  · exact new b o (Nat.le_of_not_lt hb) q
end
section
variable {X : Cx}
/-- list(enumerate(a)): a new list of new pairs -/
def tEnumL (K : PySem.W.Frag) (ta : TA) : TE := fun σ H Q => ta σ H fun vs H1 => ∃ a xs, vs = [.ref a] ∧ SqL K H1 a xs ∧ ∀ (D : Addr) (as : List Addr) (H2 : Hp), Same H1 H2 → H1 D = none → H2 D = some (.lst (as.map V.ref)) → as.length = xs.length →
  (∀ (j : Nat) (x : V), xs[j]? = some x → ∃ b, as[j]? = some b ∧ H2 b = some (.tup [.int j, x])) → Q (.ref D) H2
theorem pairs_rise {as : List Addr} (h : as.Pairwise (· < ·)) {j : Nat} {b : Addr} (hb : as[j]? = some b) : as.findIdx? (· == b) = some j := by
  rw [List.findIdx?_eq_some_iff_getElem]
  obtain ⟨hj, e⟩ := List.getElem?_eq_some_iff.mp hb
  refine ⟨hj, by simp [e], fun i hi => ?_⟩
  have := List.pairwise_iff_getElem.mp h i j (by omega) hj hi
  rw [e] at this
  simpa using Nat.ne_of_lt this
def enH (H : Hp) (n : Nat) (as : List Addr) (xs : List V) : Hp := fun b => if b < n then H b else if b = n + 2 then some (.lst (as.map V.ref)) else match as.findIdx? (· == b) with
  | some j => (xs[j]?).map fun x => .tup [.int j, x]
  | none => none
theorem enH_old {H : Hp} {n : Nat} {as : List Addr} {xs : List V} {b : Addr} (h : b < n) : enH H n as xs b = H b := if_pos h
theorem enH_D {H : Hp} {n : Nat} {as : List Addr} {xs : List V} : enH H n as xs (n + 2) = some (.lst (as.map V.ref)) := by
  unfold enH
  rw [if_neg (show ¬ n + 2 < n by omega), if_pos rfl]
theorem enH_T {H : Hp} {n : Nat} {as : List Addr} {xs : List V} (h : as.Pairwise (· < ·)) {j : Nat} {b : Addr} {x : V} (hb : n + 3 ≤ b) (z1 : as[j]? = some b) (z2 : xs[j]? = some x) : enH H n as xs b = some (.tup [.int j, x]) := by
  unfold enH
  rw [if_neg (Nat.not_lt.mpr (Nat.le_trans (Nat.le_add_right n 3) hb)), if_neg (Nat.ne_of_gt (Nat.lt_of_lt_of_le (Nat.lt_succ_self _) hb)), pairs_rise h z1]
  show (xs[j]?).map _ = _
  rw [z2]; rfl
theorem enH_new {H : Hp} {n : Nat} {as : List Addr} {xs : List V} {b : Addr} {o : HO} (hb : n ≤ b) (z : enH H n as xs b = some o) : (b = n + 2 ∧ o = .lst (as.map V.ref)) ∨ ∃ (j : Nat) (x : V), as[j]? = some b ∧ xs[j]? = some x ∧ o = .tup [.int j, x] := by
  unfold enH at z
  rw [if_neg (Nat.not_lt.mpr hb)] at z
  by_cases hD : b = n + 2
  · rw [if_pos hD] at z
    exact .inl ⟨hD, (Option.some.inj z).symm⟩
  · rw [if_neg hD] at z
    cases f : as.findIdx? (· == b) with
    | none => rw [f] at z; cases z
    | some j =>
      rw [f] at z
      obtain ⟨hj, hb2, _⟩ := List.findIdx?_eq_some_iff_getElem.mp f
      have hb3 : as[j]? = some b := by rw [List.getElem?_eq_getElem hj]; exact congrArg some (by simpa using hb2)
      cases hx : xs[j]? with
      | none =>
        have z' : (xs[j]?).map (fun x => HO.tup [.int j, x]) = some o := z
        rw [hx] at z'; cases z'
      | some x =>
        have z' : (xs[j]?).map (fun x => HO.tup [.int j, x]) = some o := z
        rw [hx] at z'
        exact .inr ⟨j, x, hb3, hx, (Option.some.inj z').symm⟩
theorem refs_vals : ∀ as : List Addr, Vals (as.map V.ref) (as.map Value.ref)
  | [] => .nil
  | _ :: as => .cons rfl (refs_vals as)
theorem pe_enumL {l : Expr} {ta : TA} {p p2 pos pos2 : Pos} (hc : X.calm = true) (hg : Gl X "list") (hm : X.mg "list" = none) (hg2 : Gl X "enumerate") (hm2 : X.mg "enumerate" = none) (ha : PA X [l] ta) (hs : starEach [l] X.env = [(false, eval l X.env)] := by rfl) :
    PE X (.Call (.Name "list" p) [.Call (.Name "enumerate" p2) [l] [] pos2] [] pos) (tEnumL X.K ta) := by
  intro pins s σ H Q I h
  refine wpAny_Call_Name_kw (ld_blt I hg hm (show bootBuiltins "list" = some (.type "list") by decide +kernel) ?_)
  refine PyProof.Rows.callWith_type1 ?_ rfl rfl
  show wpAny _ _ (spliced ((false, eval (.Call (.Name "enumerate" p2) [l] [] pos2) X.env) :: [])) _ _ s
  refine Calls.spliced_cons ?_
  refine Call_ (ld_blt I hg2 hm2 boot_enum (PyProof.Rows.callWith_type1 (thn (ha pos2 pins s σ H _ I h) fun us s1 ⟨vs, H1, I1, r1, q1⟩ => ?_) hs rfl))
  obtain ⟨a, xs, e, hxs, q⟩ := q1
  subst e
  obtain ⟨u, rfl, ru⟩ := vals1 r1
  cases ru
  obtain ⟨its, rv, pl, hz⟩ := I1.list hxs
  have hlen := rv.length
  have alt : a < s1.heap.objs.size := by obtain ⟨o, z, _⟩ := pl.isList; exact Heap.lt_size z
  refine call_enumerate_list pl.isList fun h1 he hit hsz hk => Calls.spliced_nil ?_
  refine call_list_enum (s := { s1 with heap := h1 }) (I1.ok.hd hc) he hit (pl.isList.at fun o z => hk a o z) (Nat.ne_of_gt (Nat.lt_succ_self _)) (Nat.ne_of_lt (Nat.lt_succ_of_lt alt)) (Nat.ne_of_lt alt) (by simp only [List.size_toArray]; omega) fun h2 tk c as k1 k2 k3 k4 => ?_
  rw [hsz] at k2 k4 ⊢
  have k3' : as.length = xs.length := by rw [k3]; simp only [List.size_toArray]; omega
  have keepAll : ∀ b o, s1.heap.get? b = some o → h2.get? b = some o := fun b o z =>
    k1 b o (Nat.ne_of_lt (Nat.lt_succ_of_lt (Heap.lt_size z))) (Nat.ne_of_lt (Heap.lt_size z)) (hk b o z)
  have hgt : ∀ (j : Nat) (b : Addr), as[j]? = some b → s1.heap.objs.size + 3 ≤ b := fun j b z => (k4.2 j b z).1
  refine ⟨.ref (s1.heap.objs.size + 2), enH H1 s1.heap.objs.size as xs, ?_, rfl, q _ as _ (fun b o z => by rw [enH_old (I1.hok.lt z)]; exact z) (I1.hok.fresh (Nat.le_add_right _ _)) enH_D k3' fun j x z => ?_⟩
  · refine I1.grow (t' := tk) keepAll (fun b hb => enH_old hb) fun b o hb z => ?_
    rcases enH_new hb z with ⟨rfl, rfl⟩ | ⟨j, x, hb3, hx, rfl⟩
    · exact ⟨by rw [List.length_map]; omega, as.map Value.ref, c, refs_vals as, k2⟩
    · obtain ⟨_, t, y, y1, y2⟩ := k4.2 j b hb3
      obtain ⟨u, hu, ru⟩ := rv.get hx
      have : y = u := by
        have y1' : its[j]? = some y := by simpa using y1
        rw [hu] at y1'
        exact (Option.some.inj y1').symm
      subst this
      exact ⟨(by show 2 ≤ sizeLine; rw [sizeLine_eq]; decide), [.int j t, y], .cons ⟨_, rfl⟩ (.cons ru .nil), _, y2, rfl, 0, rfl⟩
  · have hj : j < as.length := by
      have := (List.getElem?_eq_some_iff.mp z).1
      omega
    exact ⟨as[j], List.getElem?_eq_getElem hj, enH_T k4.1 (hgt j _ (List.getElem?_eq_getElem hj)) (List.getElem?_eq_getElem hj) z⟩
/-- not a starred one -/
def plainE : Expr → Bool
  | .Starred .. => false
  | _ => true
theorem star_plain {e : Expr} {es : List Expr} {env : Env} (h : plainE e = true) : starEach (e :: es) env = (false, eval e env) :: starEach es env := by
  cases e <;> first | rfl | cases h
theorem pac {e : Expr} {es : List Expr} {te : TE} {t : TA} (ha : PE X e te) (hr : PA X es t) (hp : plainE e = true := by rfl) : PA X (e :: es) (tCons te t) := pa_cons ha hr (star_plain hp)
end
end L2

set_option Elab.async false
set_option maxRecDepth 100000
set_option maxHeartbeats 4000000
namespace L2
open PySem PySem.Spec PyProof.Rows

/-! ### heaps that grow, and heaps in which some places change -/
/-- all but what stands at the places S is as it was -/
def Kp (S : List Addr) (H H' : Hp) : Prop := ∀ b o, b ∉ S → H b = some o → H' b = some o
theorem Kp.refl (S : List Addr) (H : Hp) : Kp S H H := fun _ _ _ q => q
theorem Kp.trans {S : List Addr} {H H1 H2 : Hp} (a : Kp S H H1) (b : Kp S H1 H2) : Kp S H H2 := fun c o n q => b c o n (a c o n q)
theorem Same.kp {S : List Addr} {H H' : Hp} (a : Same H H') : Kp S H H' := fun b o _ q => a b o q
theorem Kp.mono {S T : List Addr} {H H' : Hp} (a : Kp S H H') (h : ∀ b ∈ S, b ∈ T) : Kp T H H' := fun b o n q => a b o (fun z => n (h b z)) q
theorem Kp.one {x b : Addr} {H H' : Hp} {o : HO} (a : Kp [x] H H') (n : b ≠ x) (q : H b = some o) : H' b = some o := a b o (by simp [n]) q
theorem same_upd {H : Hp} {p : Addr} {o : HO} (h : H p = none) : Same H (upd H p o) := fun c u z => by rw [upd_ne (ne_of_none z h)]; exact z
theorem kp_upd {H : Hp} {p : Addr} {o : HO} : Kp [p] H (upd H p o) := fun c u n z => by rw [upd_ne (by simpa using n)]; exact z
/-- nothing new is taken for something old -/
theorem Kp.free {H H' : Hp} {S : List Addr} (a : Kp S H H') {p : Addr} (n : p ∉ S) (h : H' p = none) : H p = none := by
  cases q : H p with
  | none => rfl
  | some o => rw [a p o n q] at h; cases h

section
variable {X : Cx}
theorem PE.imp {e : Expr} {t t' : TE} (h : PE X e t) (i : ∀ σ H Q, t' σ H Q → t σ H Q) : PE X e t' := fun pins s σ H Q I w => h pins s σ H Q I (i σ H Q w)
theorem PI.imp {tg e : Expr} {t t' : TI} (h : PI X tg e t) (i : ∀ σ H Q, t' σ H Q → t σ H Q) : PI X tg e t' := fun pins s σ H Q I w => h pins s σ H Q I (i σ H Q w)
theorem CallR.imp {f : Value} {r r' : List V → Hp → VK → Prop} (h : CallR X f r) (i : ∀ xs H Q, r' xs H Q → r xs H Q) : CallR X f r' := fun pins s σ H xs us Q I rx w => h pins s σ H xs us Q I rx (i xs H Q w)
theorem PS.imp {e : Stmt} {t t' : TS} (h : PS X e t) (i : ∀ D σ H, t' D σ H → t D σ H) : PS X e t' := fun pins s σ H D I w => h pins s σ H D I (i D σ H w)

/-! ### names -/
def gt : St → Nat → Option V
  | [], _ => none
  | o :: _, 0 => o
  | _ :: r, n + 1 => gt r n
theorem gt_some : ∀ {σ : St} {i : Nat} {v : V}, gt σ i = some v → σ[i]? = some (some v)
  | [], _, _, h => by simp [gt] at h
  | o :: _, 0, _, h => by simp [gt] at h; simp [h]
  | _ :: r, n + 1, _, h => by simp [gt] at h; simpa using gt_some h
def mVar (i : Nat) : TE := fun σ H Q => match gt σ i with
  | some v => Q v H
  | none => False
theorem mVar_imp {i : Nat} {σ : St} {H : Hp} {Q : VK} (h : mVar i σ H Q) : tVar i σ H Q := by
  unfold mVar at h
  cases e : gt σ i with
  | none => rw [e] at h; exact h.elim
  | some v => rw [e] at h; exact ⟨v, gt_some e, h⟩
theorem mv (i : Nat) {x : Str} {pos : Pos} (hN : X.N[i]? = some x := by rfl) (hv : Vis X.env.scope x := by first | exact Or.inl rfl | exact Or.inr (Or.inl rfl) | exact Or.inr (Or.inr rfl)) (hd : (x == ("__debug__" : Str)) = false := by decide)
    (hcd : (x == ("__classdict__" : Str)) = false := by decide) : PE X (.Name x pos) (mVar i) := (pe_var hN hv hd hcd).imp fun _ _ _ => mVar_imp

/-! ### the places where the heap is asked -/
@[irreducible] def hNewL (xs : List V) (H : Hp) (Q : VK) : Prop := xs.length ≤ sizeLine ∧ ∀ p, H p = none → Q (.ref p) (upd H p (.lst xs))
@[irreducible] def hNewT (xs : List V) (H : Hp) (Q : VK) : Prop := xs.length ≤ sizeLine ∧ ∀ p, H p = none → Q (.ref p) (upd H p (.tup xs))
@[irreducible] def hCat (a b : Addr) (H : Hp) (Q : VK) : Prop := ∃ xs ys, H a = some (.lst xs) ∧ H b = some (.lst ys) ∧ xs.length + ys.length ≤ sizeLine ∧ ∀ p, H p = none → Q (.ref p) (upd H p (.lst (xs ++ ys)))
@[irreducible] def hRep (a : Addr) (k : Int) (H : Hp) (Q : VK) : Prop := ∃ xs, H a = some (.lst xs) ∧ -(2 ^ 63) ≤ k ∧ k < 2 ^ 63 ∧ xs.length * k.toNat ≤ sizeLine ∧ ∀ p, H p = none → Q (.ref p) (upd H p (.lst (List.replicate k.toNat xs).flatten))
@[irreducible] def hIx (K : PySem.W.Frag) (a : Addr) (i : Int) (H : Hp) (Q : VK) : Prop := ∃ xs v, (SqL K H a xs ∨ SqT K H a xs) ∧ atI xs i = some v ∧ Q v H
@[irreducible] def hSl (K : PySem.W.Frag) (a : Addr) (lo hi : Option Int) (H : Hp) (Q : VK) : Prop := ∃ xs, SqL K H a xs ∧ ∀ p, H p = none → Q (.ref p) (upd H p (.lst (cutV xs lo hi)))
@[irreducible] def hSet (a : Addr) (k : Int) (v : V) (H : Hp) (Q : Hp → Prop) : Prop := ∃ xs j, H a = some (.lst xs) ∧ ixN xs.length k = some j ∧ Q (upd H a (.lst (xs.set j v)))
@[irreducible] def hApp (a : Addr) (y : V) (H : Hp) (Q : VK) : Prop := ∃ xs, H a = some (.lst xs) ∧ xs.length < sizeLine ∧ Q .non (upd H a (.lst (xs ++ [y])))
@[irreducible] def hClr (a : Addr) (H : Hp) (Q : VK) : Prop := ∃ xs, H a = some (.lst xs) ∧ Q .non (upd H a (.lst []))
@[irreducible] def hEqL (K : PySem.W.Frag) (a b : Addr) (H : Hp) (Q : Bool → Hp → Prop) : Prop := ∃ ns ms : List Int, SqL K H a (ns.map V.int) ∧ SqL K H b (ms.map V.int) ∧ Q (decide (ns = ms)) H
@[irreducible] def hSum (K : PySem.W.Frag) (a : Addr) (H : Hp) (Q : VK) : Prop := ∃ ns : List Int, SqL K H a (ns.map V.int) ∧ Q (.int ns.sum) H
@[irreducible] def hMax (K : PySem.W.Frag) (a : Addr) (H : Hp) (Q : VK) : Prop := ∃ ns : List Int, SqL K H a (ns.map V.int) ∧ ns ≠ [] ∧ ∀ M, M ∈ ns → (∀ a, a ∈ ns → a ≤ M) → Q (.int M) H
@[irreducible] def hMin (K : PySem.W.Frag) (a : Addr) (H : Hp) (Q : VK) : Prop := ∃ ns : List Int, SqL K H a (ns.map V.int) ∧ ns ≠ [] ∧ ∀ M, M ∈ ns → (∀ a, a ∈ ns → M ≤ a) → Q (.int M) H
@[irreducible] def hLen (K : PySem.W.Frag) (a : Addr) (H : Hp) (Q : VK) : Prop := ∃ ys, (SqL K H a ys ∨ SqT K H a ys) ∧ Q (.int ys.length) H
@[irreducible] def hCopy (K : PySem.W.Frag) (a : Addr) (H : Hp) (Q : VK) : Prop := ∃ ys, (SqL K H a ys ∨ SqT K H a ys) ∧ ∀ l, H l = none → Q (.ref l) (upd H l (.lst ys))
@[irreducible] def hIsi (K : PySem.W.Frag) (x : V) (c : String) (H : Hp) (Q : VK) : Prop := ∃ t, TyOf K H x (.type t) ∧ t ∈ ["NoneType", "bool", "int", "str", "list", "tuple", "dict"] ∧ c ∈ ["bool", "int", "str", "list", "tuple", "dict"] ∧ Q (.bl (isTy t c)) H

/-! ### how these are shown -/
section
variable {H : Hp} {Q : VK} {K : PySem.W.Frag} {a b : Addr}
theorem i_newL {xs : List V} (h : xs.length ≤ sizeLine) (q : ∀ p H', H p = none → Same H H' → H' p = some (.lst xs) → Q (.ref p) H') : hNewL xs H Q := by
  unfold hNewL; exact ⟨h, fun p hp => q p _ hp (same_upd hp) upd_same⟩
theorem i_newT {xs : List V} (h : xs.length ≤ sizeLine) (q : ∀ p H', H p = none → Same H H' → H' p = some (.tup xs) → Q (.ref p) H') : hNewT xs H Q := by
  unfold hNewT; exact ⟨h, fun p hp => q p _ hp (same_upd hp) upd_same⟩
theorem i_cat {xs ys : List V} (h1 : H a = some (.lst xs)) (h2 : H b = some (.lst ys)) (hl : xs.length + ys.length ≤ sizeLine) (q : ∀ p H', H p = none → Same H H' → H' p = some (.lst (xs ++ ys)) → Q (.ref p) H') : hCat a b H Q := by
  unfold hCat; exact ⟨xs, ys, h1, h2, hl, fun p hp => q p _ hp (same_upd hp) upd_same⟩
theorem rep_int (z : Int) (k : Nat) : (List.replicate k [V.int z]).flatten = (List.replicate k z).map V.int := by
  induction k with
  | zero => rfl
  | succ k ih => rw [List.replicate_succ, List.flatten_cons, ih, List.replicate_succ]; rfl
/-- [z] * k -/
theorem i_rep1 {z : Int} {k : Int} (h1 : H a = some (.lst [.int z])) (h0 : -(2 ^ 63) ≤ k) (hl : k ≤ 1000) (q : ∀ p H', H p = none → Same H H' → H' p = some (.lst ((List.replicate k.toNat z).map V.int)) → Q (.ref p) H') : hRep a k H Q := by
  unfold hRep
  refine ⟨_, h1, h0, by omega, ?_, fun p hp => q p _ hp (same_upd hp) ?_⟩
  · rw [sizeLine_eq]; simp only [List.length_cons, List.length_nil]; omega
  · rw [rep_int]; exact upd_same
theorem i_ix {xs : List V} {i : Int} {v : V} (h : SqL K H a xs ∨ SqT K H a xs) (e : atI xs i = some v) (q : Q v H) : hIx K a i H Q := by unfold hIx; exact ⟨xs, v, h, e, q⟩
theorem i_ixN {xs : List V} {i : Int} {v : V} (k : Nat) (h : H a = some (.lst xs)) (hi : i = k) (e : xs[k]? = some v) (q : Q v H) : hIx K a i H Q := by
  subst hi; exact i_ix (.inl (SqL.of h)) (atI_nat e) q
theorem i_ixT {xs : List V} {i : Int} {v : V} (k : Nat) (h : H a = some (.tup xs)) (hi : i = k) (e : xs[k]? = some v) (q : Q v H) : hIx K a i H Q := by
  subst hi; exact i_ix (.inr (SqT.of h)) (atI_nat e) q
theorem i_ixI {ns : List Int} {i : Int} (h : H a = some (.lst (ns.map V.int))) (h0 : 0 ≤ i) (h1 : i < ns.length) (q : Q (.int (ns.getD i.toNat 0)) H) : hIx K a i H Q := by
  have e : i = ((i.toNat : Nat) : Int) := by omega
  refine i_ixN i.toNat h e (v := .int (ns.getD i.toNat 0)) ?_ q
  have hk : i.toNat < ns.length := by omega
  rw [List.getElem?_map, List.getElem?_eq_getElem hk, List.getD_eq_getElem?_getD, List.getElem?_eq_getElem hk]; rfl
theorem i_len {ys : List V} (h : SqL K H a ys ∨ SqT K H a ys) (q : Q (.int ys.length) H) : hLen K a H Q := by unfold hLen; exact ⟨ys, h, q⟩
theorem i_lenI {ns : List Int} (h : H a = some (.lst (ns.map V.int))) (q : Q (.int ns.length) H) : hLen K a H Q := i_len (.inl (SqL.of h)) (by rw [List.length_map]; exact q)
theorem i_copy {ys : List V} (h : H a = some (.lst ys)) (q : ∀ p H', H p = none → Same H H' → H' p = some (.lst ys) → Q (.ref p) H') : hCopy K a H Q := by
  unfold hCopy; exact ⟨ys, .inl (SqL.of h), fun p hp => q p _ hp (same_upd hp) upd_same⟩
theorem i_min {ns : List Int} (h : SqL K H a (ns.map V.int)) (hn : ns ≠ []) (q : ∀ M, M ∈ ns → (∀ a, a ∈ ns → M ≤ a) → Q (.int M) H) : hMin K a H Q := by unfold hMin; exact ⟨ns, h, hn, q⟩
theorem i_eqL {Q : Bool → Hp → Prop} {ns ms : List Int} (h1 : SqL K H a (ns.map V.int)) (h2 : SqL K H b (ms.map V.int)) (q : Q (decide (ns = ms)) H) : hEqL K a b H Q := by unfold hEqL; exact ⟨ns, ms, h1, h2, q⟩
theorem i_app {xs : List V} {y : V} (h : H a = some (.lst xs)) (hl : xs.length < sizeLine) (q : ∀ H', Kp [a] H H' → H' a = some (.lst (xs ++ [y])) → Q .non H') : hApp a y H Q := by
  unfold hApp; exact ⟨xs, h, hl, q _ kp_upd upd_same⟩
theorem i_appI {ns : List Int} {z : Int} (h : H a = some (.lst (ns.map V.int))) (hl : ns.length < 100000) (q : ∀ H', Kp [a] H H' → H' a = some (.lst ((ns ++ [z]).map V.int)) → Q .non H') : hApp a (.int z) H Q :=
  i_app h (by rw [List.length_map, sizeLine_eq]; omega) fun H' k e => q H' k (by rw [e, List.map_append]; rfl)
theorem i_set {Q : Hp → Prop} {xs : List V} {k : Int} {v : V} (j : Nat) (h : H a = some (.lst xs)) (hk : k = j) (hj : j < xs.length) (q : ∀ H', Kp [a] H H' → H' a = some (.lst (xs.set j v)) → Q H') : hSet a k v H Q := by
  unfold hSet
  refine ⟨xs, j, h, ?_, q _ kp_upd upd_same⟩
  subst hk
  unfold ixN
  rw [if_pos (by omega), if_pos (by omega)]
  simp
theorem i_sl {xs : List V} {lo hi : Option Int} (h : SqL K H a xs) (q : ∀ p H', H p = none → Same H H' → H' p = some (.lst (cutV xs lo hi)) → Q (.ref p) H') : hSl K a lo hi H Q := by
  unfold hSl; exact ⟨xs, h, fun p hp => q p _ hp (same_upd hp) upd_same⟩
end

/-! ### operations -/
def vAdd : R2 := fun x y H Q => match x, y with
  | .int i, .int j => Q (.int (i + j)) H
  | .ref a, .ref b => hCat a b H Q
  | .str i, .str j => i.length + j.length ≤ sizeLine ∧ Q (.str (i ++ j)) H
  | _, _ => False
theorem opAdd : OpR X (binaryOp .Add) vAdd := by
  intro pins s σ H x y v u Q I rx ry h
  cases x <;> cases y <;> first
    | exact (show False from h).elim
    | exact op_add pins s σ H _ _ v u Q I rx ry ⟨_, _, rfl, rfl, h⟩
    | (obtain ⟨h1, h2⟩ := (show _ ∧ _ from h); exact op_add_str pins s σ H _ _ v u Q I rx ry ⟨_, _, rfl, rfl, h1, h2⟩)
    | (have h := (show hCat _ _ H Q from h); unfold hCat at h; obtain ⟨xs, ys, h1, h2, h3, h4⟩ := h; exact op_cat pins s σ H _ _ v u Q I rx ry ⟨_, _, xs, ys, rfl, rfl, h1, h2, h3, h4⟩)
def vSub : R2 := fun x y H Q => match x, y with
  | .int i, .int j => Q (.int (i - j)) H
  | _, _ => False
theorem opSub : OpR X (binaryOp .Sub) vSub := by
  intro pins s σ H x y v u Q I rx ry h
  cases x <;> cases y <;> first
    | exact (show False from h).elim
    | exact op_sub pins s σ H _ _ v u Q I rx ry ⟨_, _, rfl, rfl, h⟩
def vMul : R2 := fun x y H Q => match x, y with
  | .int i, .int j => CMul i j ∧ Q (.int (i * j)) H
  | .ref a, .int k => hRep a k H Q
  | _, _ => False
theorem opMul : OpR X (binaryOp .Mult) vMul := by
  intro pins s σ H x y v u Q I rx ry h
  cases x <;> cases y <;> first
    | exact (show False from h).elim
    | (obtain ⟨h1, h2⟩ := (show CMul _ _ ∧ _ from h); exact op_mul pins s σ H _ _ v u Q I rx ry ⟨_, _, rfl, rfl, h1, h2⟩)
    | (have h := (show hRep _ _ H Q from h); unfold hRep at h; obtain ⟨xs, h1, h2, h3, h4, h5⟩ := h; exact op_rep pins s σ H _ _ v u Q I rx ry ⟨_, _, xs, rfl, rfl, h1, h2, h3, h4, h5⟩)
def vMod : R2 := fun x y H Q => match x, y with
  | .int i, .int j => 0 < j ∧ Q (.int (i % j)) H
  | _, _ => False
theorem opMod : OpR X (binaryOp .Mod) vMod := by
  intro pins s σ H x y v u Q I rx ry h
  cases x <;> cases y <;> first
    | exact (show False from h).elim
    | (obtain ⟨h1, h2⟩ := (show (0 : Int) < _ ∧ _ from h); exact op_mod pins s σ H _ _ v u Q I rx ry ⟨_, _, rfl, rfl, h1, h2⟩)
def vFdiv : R2 := fun x y H Q => match x, y with
  | .int i, .int j => (0 < j ∧ j < 2 ^ 200) ∧ Q (.int (i / j)) H
  | _, _ => False
theorem opFdiv : OpR X (binaryOp .FloorDiv) vFdiv := by
  intro pins s σ H x y v u Q I rx ry h
  cases x <;> cases y <;> first
    | exact (show False from h).elim
    | (obtain ⟨h1, h2⟩ := (show ((0 : Int) < _ ∧ _) ∧ _ from h); exact op_fdivL pins s σ H _ _ v u Q I rx ry ⟨_, _, rfl, rfl, h1, h2⟩)
def vPow : R2 := fun x y H Q => match x, y with
  | .int i, .int j => CPow i j ∧ Q (.int (i ^ j.toNat)) H
  | _, _ => False
theorem opPow : OpR X (binaryOp .Pow) vPow := by
  intro pins s σ H x y v u Q I rx ry h
  cases x <;> cases y <;> first
    | exact (show False from h).elim
    | (obtain ⟨h1, h2⟩ := (show CPow _ _ ∧ _ from h); exact op_pow pins s σ H _ _ v u Q I rx ry ⟨_, _, rfl, rfl, h1, h2⟩)
def vLt (p : Int → Int → Bool) : R2 := fun x y H Q => match x, y with
  | .int i, .int j => Q (.bl (p i j)) H
  | _, _ => False
theorem opCmp {op : CmpOp} {p : Int → Int → Bool} (h0 : OpR X (compareOp op) (rI0 fun i j => .bl (p i j))) : OpR X (compareOp op) (vLt p) := by
  intro pins s σ H x y v u Q I rx ry h
  cases x <;> cases y <;> first
    | exact (show False from h).elim
    | exact h0 pins s σ H _ _ v u Q I rx ry ⟨_, _, rfl, rfl, h⟩
theorem opGt : OpR X (compareOp .Gt) (vLt fun i j => decide (j < i)) := opCmp op_gt
theorem opGe : OpR X (compareOp .GtE) (vLt fun i j => decide (j ≤ i)) := opCmp op_ge
theorem dI {i j : Int} : decide (V.int i = V.int j) = decide (i = j) := by simp
theorem dS {i j : Str} : decide (V.str i = V.str j) = decide (i = j) := by simp
theorem dB {i j : Bool} : decide (V.bl i = V.bl j) = decide (i = j) := by simp
def vNeg : V → Hp → VK → Prop := fun x H Q => match x with
  | .int i => Q (.int (-i)) H
  | _ => False
theorem unNeg : UnR X (unaryOp .USub) vNeg := by
  intro pins s σ H x v Q I rx h
  cases x <;> first
    | exact (show False from h).elim
    | exact un_neg pins s σ H _ v Q I rx ⟨_, rfl, h⟩
def vIx (K : PySem.W.Frag) : R2 := fun x y H Q => match x, y with
  | .ref a, .int i => hIx K a i H Q
  | _, _ => False
theorem ixM : IxR X (vIx X.K) := by
  intro value slice pins s σ H x y v u Q I rx ry h
  cases x <;> cases y <;> first
    | exact (show False from h).elim
    | (have h := (show hIx _ _ _ H Q from h)
       unfold hIx at h
       obtain ⟨xs, w, h1 | h1, h2, h3⟩ := h
       · exact ix_list value slice pins s σ H _ _ v u Q I rx ry ⟨_, xs, _, w, rfl, rfl, h1, h2, h3⟩
       · exact ix_tup value slice pins s σ H _ _ v u Q I rx ry ⟨_, xs, _, w, rfl, rfl, h1, h2, h3⟩)
def vSl (K : PySem.W.Frag) : V → Option Int → Option Int → Hp → VK → Prop := fun x lo hi H Q => match x with
  | .ref a => hSl K a lo hi H Q
  | _ => False
theorem slM : SlR X (vSl X.K) := by
  intro pins s σ H x v vl vu lo hi sl Q I rx hs pl pu h
  cases x <;> first
    | exact (show False from h).elim
    | (have h := (show hSl _ _ _ _ H Q from h)
       unfold hSl at h
       obtain ⟨xs, h1, h2⟩ := h
       exact sl_list pins s σ H _ v vl vu lo hi sl Q I rx hs pl pu ⟨_, xs, rfl, h1, h2⟩)
def mPart (t : TE) : TO := fun σ H Q => t σ H fun x H1 => match x with
  | .int i => Q (some i) H1
  | _ => False
theorem po_m {e : Expr} {te : TE} (h : PE X e te) : PO X (some e) (mPart te) := by
  intro pins s σ H Q I hw
  rw [evalPart_some]
  refine thn (h pins s σ H _ I hw) fun u s1 ⟨x, H1, I1, r1, q1⟩ => ?_
  cases x <;> first
    | exact (show False from q1).elim
    | (obtain ⟨t, rfl⟩ := r1; exact ⟨some _, H1, I1, .int _ t, q1⟩)

/-! ### truth -/
@[irreducible] def hTru (K : PySem.W.Frag) (a : Addr) (H : Hp) (Q : Bool → Hp → Prop) : Prop := ∃ xs, (SqL K H a xs ∨ SqT K H a xs) ∧ Q (!xs.isEmpty) H
def vTru (K : PySem.W.Frag) (x : V) (H : Hp) (Q : Bool → Hp → Prop) : Prop := match x with
  | .bl b => Q b H
  | .int i => Q (i != 0) H
  | .non => Q false H
  | .ref a => hTru K a H Q
  | _ => False
theorem vTru_imp {K : PySem.W.Frag} {x : V} {H : Hp} {Q : Bool → Hp → Prop} (h : vTru K x H Q) : ∃ k, TruV K x H k ∧ Q k H := by
  cases x <;> first
    | exact (show False from h).elim
    | exact ⟨_, rfl, h⟩
    | (have h := (show hTru _ _ H Q from h)
       unfold hTru at h
       obtain ⟨xs, h1 | h1, h2⟩ := h
       · exact ⟨_, .inl ⟨xs, h1, rfl⟩, h2⟩
       · exact ⟨_, .inr (.inl ⟨xs, h1, rfl⟩), h2⟩)
theorem tru_m {pins : List (Addr × Obj)} {s : Shared} {σ : St} {H : Hp} {x : V} {v : Value} {Q : Bool → Hp → Prop} (I : Inv X pins σ H s) (r : RelV x v) (h : vTru X.K x H Q) : wpAny (model X.prog X.w) X.A (truthy v) (TP X pins σ Q) X.xe s :=
  tru_ok pins s σ H x v Q I r (vTru_imp h)
/-- a value as a test -/
def mT (K : PySem.W.Frag) (t : TE) : TT := fun σ H Q => t σ H fun x H' => vTru K x H' Q
theorem pt_m {a : Expr} {ta : TE} (ha : PE X a ta) (he : ∀ whole, isTrue a X.env whole = (do let v ← whole; standAt a.pos; holding [v] (truthy v)) := by intro _; rfl) : PT X a (mT X.K ta) := by
  intro pins s σ H Q I h
  exact isTrue_plain (thn (ha pins s σ H _ I h) fun v s1 ⟨x, H1, I1, r1, q1⟩ => tru_m I1 r1 q1) (he _)
def mB (t : TE) : TT := fun σ H Q => t σ H fun x H' => match x with
  | .bl k => Q k H'
  | _ => False
section
variable {a b c : Expr} {ta tb tc : TE} {pos : Pos} {tA tB' : TT} {rest : List Expr}
theorem pt_cm {op : CmpOp} {r : R2} (ho : OpR X (compareOp op) r) (ha : PE X a ta) (hb : PE X b tb) (hm : behindInMarks op b = false) : PT X (.Compare a [op] [b] pos) (mB (tOp r ta tb)) := by
  intro pins s σ H Q I h
  refine wpAny_isTrue_Compare1 (thn (ha pins s σ H _ I h) fun v s1 ⟨x, H1, I1, r1, q1⟩ => thn (hb pins s1 σ H1 _ I1 q1) fun u s2 ⟨y, H2, I2, r2, q2⟩ =>
    thn (ho pins s2 σ H2 x y v u _ I2 r1 r2 q2) fun c s3 ⟨z, H3, I3, r3, q3⟩ => ?_) hm
  cases z <;> first
    | exact (show False from q3).elim
    | (cases r3; exact wpAny_truthy_bool ⟨H3, I3, q3⟩)
def mAnd (t u : TT) : TT := fun σ H Q => t σ H fun c H1 => (c = true → u σ H1 Q) ∧ (c = false → Q false H1)
def mOr (t u : TT) : TT := fun σ H Q => t σ H fun c H1 => (c = true → Q true H1) ∧ (c = false → u σ H1 Q)
theorem pw_am (ha : PT X a tA) (hb : PW X (.BoolOp .And (b :: rest) pos) tB') : PW X (.BoolOp .And (a :: b :: rest) pos) (mAnd tA tB') := by
  intro wh pins s σ H Q I h
  refine isTrue_and (thn (ha pins s σ H _ I h) fun c s1 ⟨H1, I1, q1⟩ => ?_)
  cases c with
  | true => exact hb wh pins s1 σ H1 Q I1 (q1.1 rfl)
  | false => exact ⟨H1, I1, q1.2 rfl⟩
theorem pw_om (ha : PT X a tA) (hb : PW X (.BoolOp .Or (b :: rest) pos) tB') : PW X (.BoolOp .Or (a :: b :: rest) pos) (mOr tA tB') := by
  intro wh pins s σ H Q I h
  refine isTrue_or (thn (ha pins s σ H _ I h) fun c s1 ⟨H1, I1, q1⟩ => ?_)
  cases c with
  | true => exact ⟨H1, I1, q1.1 rfl⟩
  | false => exact hb wh pins s1 σ H1 Q I1 (q1.2 rfl)
end

/-! ### statements -/
section
variable {st : Stmt} {rest : List Stmt} {t u : TS} {e : Expr} {te : TE} {pos : Pos}
def mIfS (c : TT) (t u : TS) : TS := fun D σ H => c σ H fun b H1 => (b = true → t D σ H1) ∧ (b = false → u D σ H1)
theorem ps_ifm {c : Expr} {a b : List Stmt} {tc : TT} (hc : PT X c tc) (ha : PSs X a t) (hb : PSs X b u) : PS X (.If c a b pos) (mIfS tc t u) := by
  intro pins s σ H D I h
  refine wpAny_If (thn (hc pins s σ H _ I h) fun d s1 ⟨H1, I1, q1⟩ => ?_)
  cases d with
  | true => exact ha pins s1 σ H1 D I1 (q1.1 rfl)
  | false => exact hb pins s1 σ H1 D I1 (q1.2 rfl)
/-- a block with a stop behind its first statement -/
def mMid (t u : TS) : TS := fun D σ H => ∃ M : St → Hp → Prop, t { D with nx := M } σ H ∧ ∀ σ' H', M σ' H' → u D σ' H'
theorem pss_mid (h1 : PS X st t) (h2 : PSs X rest u) : PSs X (st :: rest) (mMid t u) := by
  intro pins s σ H D I h
  obtain ⟨M, h, hM⟩ := h
  refine wpAny_execs_cons (thn (h1 pins s σ H { D with nx := M } I h) fun f s1 q => ?_)
  cases f with
  | next =>
    obtain ⟨σ', H', I', q⟩ := q
    exact h2 pins s1 σ' H' D I' (hM _ _ q)
  | ret v => exact q
  | brk => exact q
  | cont => exact q
def mWhile (c : TT) (tb : TS) : TS := fun D σ H => ∃ W : Nat → St → Hp → Prop, (∃ m, W m σ H) ∧ ∀ m σ H, W m σ H →
  c σ H fun b H1 => (b = true → tb { D with nx := fun σ' H' => ∃ m', m' < m ∧ W m' σ' H', ct := fun σ' H' => ∃ m', m' < m ∧ W m' σ' H', bk := D.nx } σ H1) ∧ (b = false → D.nx σ H1)
theorem ps_whm {c : Expr} {body : List Stmt} {tc : TT} {tb : TS} (hp : PassesOwn (model X.prog X.w) X.A X.env X.xe) (hc : PT X c tc) (hb : PSs X body tb) : PS X (.While c body [] pos) (mWhile tc tb) := by
  intro pins s σ H D I h
  obtain ⟨W, ⟨m0, w0⟩, turn⟩ := h
  refine wpAny_While (codeAny_whileLoop (fun n s' => ∃ σ' H', Inv X pins σ' H' s' ∧ W n σ' H') ?_ m0 ⟨σ, H, I, w0⟩)
  rintro n s1 ⟨σ1, H1, I1, w1⟩
  refine wpAny_passesOwn hp (thn (hc pins s1 σ1 H1 _ I1 (turn n σ1 H1 w1)) fun b s2 ⟨H2, I2, q2⟩ => ?_)
  cases b with
  | true =>
    rw [if_pos rfl]
    refine wpAny_passesOwn hp (thn (hb pins s2 σ1 H2 _ I2 (q2.1 rfl)) fun f s3 q3 => ?_)
    cases f with
    | next =>
      obtain ⟨σ3, H3, I3, m', hm, w3⟩ := q3
      exact ⟨m', hm, σ3, H3, I3, w3⟩
    | cont =>
      obtain ⟨σ3, H3, I3, m', hm, w3⟩ := q3
      exact ⟨m', hm, σ3, H3, I3, w3⟩
    | brk => exact q3
    | ret v => exact q3
  | false =>
    rw [if_neg Bool.false_ne_true]
    exact wpAny_execs_nil ⟨σ1, H2, I2, q2.2 rfl⟩
/-- a while by its invariant: W, with a measure -/
theorem while_m {c : TT} {tb : TS} {D : Ends} {σ : St} {H : Hp} (W : Nat → St → Hp → Prop) (m : Nat) (h0 : W m σ H)
    (hs : ∀ m σ H, W m σ H → c σ H fun b H1 => (b = true → tb { D with nx := fun σ' H' => ∃ m', m' < m ∧ W m' σ' H', ct := fun σ' H' => ∃ m', m' < m ∧ W m' σ' H', bk := D.nx } σ H1) ∧ (b = false → D.nx σ H1)) : mWhile c tb D σ H := ⟨W, ⟨m, h0⟩, hs⟩
def mAug (i : Nat) (te : TE) (ti : TIp) : TS := fun D σ H => match gt σ i with
  | some x => te σ H fun y H1 => ti x y H1 fun z H2 => D.nx (σ.set i (some z)) H2
  | none => False
theorem ps_augm {i : Nat} {x : Str} {e : Expr} {te : TE} {op : Operator} {ti : TIp} {pos' : Pos} (hN : X.N.Nodup) (hi : X.N[i]? = some x) (hx : Loc X.env.scope x) (he : PE X e te) (ho : PIp X op ti) (hf : X.fn x = true ∨ X.env.scope.names.lookup x = some .local := by first | exact .inl rfl | exact .inr rfl | assumption) :
    PS X (.AugAssign (.Name x pos') op e pos) (mAug i te ti) := (ps_aug hN hi hx he ho hf).imp fun D σ H h => by
  unfold mAug at h
  cases e : gt σ i with
  | none => rw [e] at h; exact h.elim
  | some v => rw [e] at h; exact ⟨v, gt_some e, h⟩
def vIpI (f : Int → Int → Int) : TIp := fun x y H Q => match x, y with
  | .int i, .int j => Q (.int (f i j)) H
  | _, _ => False
theorem ipAdd : PIp X .Add (vIpI fun i j => i + j) := by
  intro pins s σ H x y v u Q I r1 r2 h
  cases x <;> cases y <;> first
    | exact (show False from h).elim
    | exact ip_add pins s σ H _ _ v u Q I r1 r2 ⟨_, _, rfl, rfl, h⟩
def vSet : TSet := fun o i v H Q => match o, i with
  | .ref a, .int k => hSet a k v H Q
  | _, _ => False
theorem setM : PSet X vSet := by
  intro pins s σ H o i v ov iv u Q I ro ri rv h
  cases o <;> cases i <;> first
    | exact (show False from h).elim
    | (have h := (show hSet _ _ _ H Q from h); unfold hSet at h; obtain ⟨xs, j, h1, h2, h3⟩ := h; exact set_list pins s σ H _ _ v ov iv u Q I ro ri rv ⟨_, xs, _, j, rfl, rfl, h1, h2, h3⟩)
end

/-! ### displays, methods, builtins -/
def mLst (t : TA) : TE := fun σ H Q => t σ H fun xs H1 => hNewL xs H1 Q
def mTup (t : TA) : TE := fun σ H Q => t σ H fun xs H1 => hNewT xs H1 Q
theorem pe_lm {es : List Expr} {t : TA} {pos : Pos} (h : PA X es t) : PE X (.List es pos) (mLst t) := by
  intro pins s σ H Q I w
  refine pe_lst (t := fun σ H Q => t σ H Q) h pins s σ H Q I ?_
  have w' : t σ H fun xs H1 => hNewL xs H1 Q := w
  unfold hNewL at w'
  exact w'
theorem pe_tm {x1 : Nat} {es : List Expr} {t : TA} {pos : Pos} (h : PA X es t) : PE X (.Tuple es x1 pos) (mTup t) := by
  intro pins s σ H Q I w
  refine pe_tup (t := fun σ H Q => t σ H Q) h pins s σ H Q I ?_
  have w' : t σ H fun xs H1 => hNewT xs H1 Q := w
  unfold hNewT at w'
  exact w'
def vApp : V → List V → Hp → VK → Prop := fun x vs H Q => match x, vs with
  | .ref a, [y] => hApp a y H Q
  | _, _ => False
theorem mtApp : MtM X "list.append" vApp := by
  intro pins s σ H x vs v us Q I rx rv h
  unfold vApp at h
  split at h
  · unfold hApp at h; obtain ⟨xs, h1, h2, h3⟩ := h; exact mt_append pins s σ H _ _ v us Q I rx rv ⟨_, xs, _, rfl, rfl, h1, h2, h3⟩
  · exact h.elim
theorem i_tyL {K : PySem.W.Frag} {H : Hp} {a : Addr} {xs : List V} (h : H a = some (.lst xs)) : tyV K "list" (.ref a) H := .inl ⟨rfl, _, SqL.of h⟩
def vSum (K : PySem.W.Frag) : List V → Hp → VK → Prop := fun xs H Q => match xs with
  | [.ref a] => hSum K a H Q
  | _ => False
def vMax (K : PySem.W.Frag) : List V → Hp → VK → Prop := fun xs H Q => match xs with
  | [.ref a] => hMax K a H Q
  | [.int i, .int j] => Q (.int (max i j)) H
  | _ => False
theorem callMax (hc : X.calm = true) : CallR X (.builtin "max") (vMax X.K) := ((call_max hc).or (call_max2 hc)).imp fun xs H Q h => by
  unfold vMax at h; split at h
  · unfold hMax at h; obtain ⟨ns, h1, h2⟩ := h; exact .inl ⟨_, ns, rfl, h1, h2⟩
  · refine .inr ⟨_, _, rfl, ?_⟩
    rename_i i j
    have e : (if j > i then j else i) = max i j := by split <;> omega
    rw [e]; exact h
  · exact h.elim
def vMin (K : PySem.W.Frag) : List V → Hp → VK → Prop := fun xs H Q => match xs with
  | [.ref a] => hMin K a H Q
  | [.int i, .int j] => Q (.int (min i j)) H
  | _ => False
theorem callMin (hc : X.calm = true) : CallR X (.builtin "min") (vMin X.K) := ((call_min hc).or (call_min2 hc)).imp fun xs H Q h => by
  unfold vMin at h; split at h
  · unfold hMin at h; obtain ⟨ns, h1, h2⟩ := h; exact .inl ⟨_, ns, rfl, h1, h2⟩
  · refine .inr ⟨_, _, rfl, ?_⟩
    rename_i i j
    have e : (if j < i then j else i) = min i j := by split <;> omega
    rw [e]; exact h
  · exact h.elim
def vLen (K : PySem.W.Frag) : List V → Hp → VK → Prop := fun xs H Q => match xs with
  | [.ref a] => hLen K a H Q
  | _ => False
theorem callLen : CallR X (.builtin "len") (vLen X.K) := call_len_seq.imp fun xs H Q h => by
  unfold vLen at h; split at h
  · unfold hLen at h; obtain ⟨ys, h1, h2⟩ := h; exact ⟨_, ys, rfl, h1, h2⟩
  · exact h.elim
def vCopy (K : PySem.W.Frag) : List V → Hp → VK → Prop := fun xs H Q => match xs with
  | [.ref a] => hCopy K a H Q
  | _ => False
theorem callList : CallR X (.type "list") (vCopy X.K) := call_list_of.imp fun xs H Q h => by
  unfold vCopy at h; split at h
  · unfold hCopy at h; obtain ⟨ys, h1, h2⟩ := h; exact ⟨_, ys, rfl, h1, h2⟩
  · exact h.elim
def vInt : List V → Hp → VK → Prop := fun xs H Q => match xs with
  | [.int i] => Q (.int i) H
  | [.bl k] => Q (.int (if k then 1 else 0)) H
  | _ => False
theorem callInt : CallR X (.type "int") vInt := call_int1.imp fun xs H Q h => by
  unfold vInt at h; split at h
  · exact .inl ⟨_, rfl, h⟩
  · exact .inr ⟨_, rfl, h⟩
  · exact h.elim
def vIsi (K : PySem.W.Frag) : List V → Hp → VK → Prop := fun xs H Q => match xs with
  | [x, .ty c] => hIsi K x c H Q
  | _ => False
theorem callIsi : CallR X (.builtin "isinstance") (vIsi X.K) := call_isinstance.imp fun xs H Q h => by
  unfold vIsi at h; split at h
  · unfold hIsi at h; obtain ⟨t, h1, h2⟩ := h; exact ⟨_, t, _, rfl, h1, h2⟩
  · exact h.elim
end

/-! ### what loops walk -/
section
variable {X : Cx} {tg : Expr}
def mItL (K : PySem.W.Frag) (tl : TE) : TI := fun σ H R => tl σ H fun x H1 => match x with
  | .ref a => (∃ xs, SqL K H1 a xs) ∧ R (Itl K a) H1
  | _ => False
theorem pi_lm {l : Expr} {tl : TE} (hl : PE X l tl) : PI X tg l (mItL X.K tl) := by
  intro pins s σ H R I h
  refine thn (hl pins s σ H _ I h) fun v s1 ⟨x, H1, I1, r1, q1⟩ => ?_
  cases x <;> first
    | exact (show False from q1).elim
    | skip
  rename_i a
  obtain ⟨⟨xs, hq⟩, q⟩ := (show (∃ xs, SqL X.K H1 a xs) ∧ R (Itl X.K a) H1 from q1)
  cases r1
  obtain ⟨its, rv, p, hz⟩ := I1.list hq
  refine wpAny_pyIter_list p.isList ?_
  refine ⟨s1.heap.objs.size, [s1.heap.objs.size], _, _, H1, rfl, I1.kept (t' := s1.toks) fun b o e => Heap.get?_push_of_some _ e, turn_list a _, ⟨_, Heap.get?_push_size _ rfl, rfl, rfl⟩, fun b hb => ?_, q⟩
  have e : b = s1.heap.objs.size := by simpa using hb
  subst e
  exact I1.fpOk (Nat.le_refl _) (I1.hok.fresh (Nat.le_refl _))
def upA (t : TA) : TA := fun σ H Q => ∃ P : List V → Hp → Prop, t σ H P ∧ ∀ vs H1, P vs H1 → Q vs H1
theorem PA.up {es : List Expr} {t : TA} (h : PA X es t) : PA X es (upA t) := by
  intro pos pins s σ H Q I w
  obtain ⟨P, w, hP⟩ := w
  exact thn (h pos pins s σ H P I w) fun us s1 ⟨vs, H1, I1, r1, q1⟩ => ⟨vs, H1, I1, r1, hP _ _ q1⟩
def mRng1 (ta : TA) : TI := fun σ H R => ta σ H fun vs H1 => match vs with
  | [.int j] => (-(2 ^ 62) ≤ j ∧ j < 2 ^ 62) ∧ R (Itr 0 j.toNat) H1
  | _ => False
def mRng2 (ta : TA) : TI := fun σ H R => ta σ H fun vs H1 => match vs with
  | [.int i, .int j] => (-(2 ^ 62) ≤ i ∧ i < 2 ^ 62 ∧ -(2 ^ 62) ≤ j ∧ j < 2 ^ 62) ∧ R (Itr i (j - i).toNat) H1
  | _ => False
def mRngD (ta : TA) : TI := fun σ H R => ta σ H fun vs H1 => match vs with
  | [.int i, .int j, .int k] => k = -1 ∧ (-(2 ^ 61) ≤ i ∧ i < 2 ^ 61 ∧ -(2 ^ 61) ≤ j ∧ j < 2 ^ 61) ∧ R (Itd i (i - j).toNat) H1
  | _ => False
theorem pi_r1 {a : Expr} {ta : TA} {p pos : Pos} (hg : Gl X "range") (hm : X.mg "range" = none) (ha : PA X [a] ta) (hs : starEach [a] X.env = [(false, eval a X.env)] := by rfl) : PI X tg (.Call (.Name "range" p) [a] [] pos) (mRng1 ta) :=
  (pi_range1 hg hm ha.up hs).imp fun σ H R h => ⟨_, h, fun vs H1 q => by
    split at q
    · exact ⟨_, rfl, q.1.1, q.1.2, q.2⟩
    · exact q.elim⟩
theorem pi_r2 {a b : Expr} {ta : TA} {p pos : Pos} (hg : Gl X "range") (hm : X.mg "range" = none) (ha : PA X [a, b] ta) (hs : starEach [a, b] X.env = [(false, eval a X.env), (false, eval b X.env)] := by rfl) (hs2 : starEach [b] X.env = [(false, eval b X.env)] := by rfl) :
    PI X tg (.Call (.Name "range" p) [a, b] [] pos) (mRng2 ta) := (pi_range2 hg hm ha.up hs hs2).imp fun σ H R h => ⟨_, h, fun vs H1 q => by
    split at q
    · exact ⟨_, _, rfl, q.1, q.2⟩
    · exact q.elim⟩
theorem pi_rd {a b c : Expr} {ta : TA} {p pos : Pos} (hg : Gl X "range") (hm : X.mg "range" = none) (ha : PA X [a, b, c] ta) (hs : starEach [a, b, c] X.env = [(false, eval a X.env), (false, eval b X.env), (false, eval c X.env)] := by rfl) (hs2 : starEach [b, c] X.env = [(false, eval b X.env), (false, eval c X.env)] := by rfl) :
    PI X tg (.Call (.Name "range" p) [a, b, c] [] pos) (mRngD ta) := (pi_down hg hm ha.up hs hs2).imp fun σ H R h => ⟨_, h, fun vs H1 q => by
    split at q
    · obtain ⟨rfl, q1, q2⟩ := q; exact ⟨_, _, rfl, q1, q2⟩
    · exact q.elim⟩
@[irreducible] def hUnp (K : PySem.W.Frag) (a : Addr) (n : Nat) (H : Hp) (Q : List V → Prop) : Prop := ∃ xs, SqT K H a xs ∧ xs.length = n ∧ Q xs
theorem i_unp {K : PySem.W.Frag} {a : Addr} {n : Nat} {H : Hp} {Q : List V → Prop} {xs : List V} (h : H a = some (.tup xs)) (hl : xs.length = n) (q : Q xs) : hUnp K a n H Q := by unfold hUnp; exact ⟨xs, SqT.of h, hl, q⟩
def gTm (K : PySem.W.Frag) (n : Nat) (t : TGs) : TG := fun v σ H Q => match v with
  | .ref a => hUnp K a n H fun xs => t xs σ H Q
  | _ => False
theorem pg_tm {es : List Expr} {k : Nat} {t : TGs} {n : Nat} {pos : Pos} (hc : X.calm = true) (h : PGs X es t)
    (hn : (assignEach es X.env).length = n := by rfl) (hst : (assignEach es X.env).findIdx? (·.1) = none := by rfl) : PG X (.Tuple es k pos) (gTm X.K n t) := by
  intro pins s σ H v u Q I r hw
  cases v <;> first
    | exact (show False from hw).elim
    | skip
  rename_i a
  have hw := (show hUnp X.K a n H _ from hw)
  unfold hUnp at hw
  obtain ⟨xs, h1, h2, h3⟩ := hw
  exact pg_tup hc h hn hst pins s σ H _ u Q I r ⟨a, xs, rfl, h1, h2, h3⟩
def gNm : TGs := fun vs σ H Q => match vs with
  | [] => Q σ H
  | _ => False
def gCm (t : TG) (u : TGs) : TGs := fun vs σ H Q => match vs with
  | v :: r => t v σ H fun σ' H' => u r σ' H' Q
  | [] => False
theorem pgs_nm : PGs X [] gNm := by
  intro pins s σ H vs us Q I r h
  cases vs with
  | nil => exact pgs_nil pins s σ H _ us Q I r ⟨rfl, h⟩
  | cons v vs => exact (show False from h).elim
theorem pgs_cm {e : Expr} {es : List Expr} {t : TG} {u : TGs} (h1 : PG X e t) (h2 : PGs X es u)
    (hs : (assignEach (e :: es) X.env).map (·.2) = assign e X.env :: (assignEach es X.env).map (·.2) := by rfl) : PGs X (e :: es) (gCm t u) := by
  intro pins s σ H vs us Q I r h
  cases vs with
  | nil => exact (show False from h).elim
  | cons v vs => exact pgs_cons h1 h2 hs pins s σ H _ us Q I r ⟨v, vs, rfl, h⟩
end

/-! ### tests in readings -/
theorem dec2 {p A B : Prop} [Decidable p] (h1 : p → A) (h2 : ¬ p → B) : (decide p = true → A) ∧ (decide p = false → B) := ⟨fun h => h1 (of_decide_eq_true h), fun h => h2 (of_decide_eq_false h)⟩
theorem ndec2 {p A B : Prop} [Decidable p] (h1 : ¬ p → A) (h2 : p → B) : ((!decide p) = true → A) ∧ ((!decide p) = false → B) := ⟨fun h => h1 (by simpa using h), fun h => h2 (by simpa using h)⟩
theorem bT {A B : Prop} (h : A) : (true = true → A) ∧ (true = false → B) := ⟨fun _ => h, fun z => nomatch z⟩
theorem bF {A B : Prop} (h : B) : (false = true → A) ∧ (false = false → B) := ⟨fun z => (nomatch z), fun _ => h⟩
theorem bNo {b : Bool} {A B : Prop} (hb : b = false) (h : B) : (b = true → A) ∧ (b = false → B) := ⟨fun z => (by rw [hb] at z; cases z), fun _ => h⟩
end L2

set_option linter.all false
set_option Elab.async false
set_option maxRecDepth 100000
set_option maxHeartbeats 4000000
namespace L2
open PySem PySem.Spec PyProof.Rows
section
variable {X : Cx}
theorem any_plain {pos : Pos} {env : Env} : ∀ {es : List Expr}, es.all plainE = true → (backTo pos (starEach es env)).any (·.1) = false
  | [], _ => rfl
  | e :: es, h => by
    rw [List.all_cons, Bool.and_eq_true] at h
    rw [star_plain h.1]
    have := any_plain (pos := pos) (env := env) h.2
    simp only [backTo, List.map_cons, List.any_cons] at this ⊢
    rw [this]; rfl
theorem star_plains {env : Env} : ∀ {es : List Expr}, es.all plainE = true → starEach es env = es.map fun e => (false, eval e env)
  | [], _ => rfl
  | e :: es, h => by
    rw [List.all_cons, Bool.and_eq_true] at h
    rw [star_plain h.1, star_plains h.2]; rfl
def noComp : Expr → Bool
  | .ListComp .. => false
  | .SetComp .. => false
  | .DictComp .. => false
  | _ => true
theorem swaps_plain {e : Expr} {t : Option Expr} {n : Nat} {env : Env} (h : noComp e = true) : swapsWith e t n env = pure false := by
  cases e <;> first | rfl | cases h
theorem ps_st {i : Nat} {x : Str} {e : Expr} {te : TE} {pos pos' : Pos} (hN : X.N.Nodup) (hi : X.N[i]? = some x) (hx : Loc X.env.scope x) (he : PE X e te) (hs : noComp e = true := by rfl) (hf : X.fn x = true ∨ X.env.scope.names.lookup x = some .local := by first | exact .inl rfl | exact .inr rfl | assumption) :
    PS X (.Assign [.Name x pos'] e pos) (tAsg te (gName i)) := ps_set hN hi hx he (swaps_plain hs) hf
theorem ps_ex {e : Expr} {te : TE} {pos : Pos} (he : PE X e te) (hs : noComp e = true := by rfl) : PS X (.Expr e pos) (tDrop te) := ps_expr he (swaps_plain hs)
/-- a def that may be called by its name -/
structure Def (P : Program) (w : World) (K : PySem.W.Frag) (mg : Str → Option Value) (base : Heap) (k : Nat) (x : Str) (ps : List Str) (sp : Sp) : Prop where
  ex : ∃ f fd, FnOk P w K mg base CX0 k f fd ps sp ∧ Binds K fd ps [] ∧ PySem.W.keepIn K (.ref f) = true ∧ mg x = some (.ref f)
theorem pe_def {k j : Nat} {x : Str} {ps : List Str} {sp : Sp} {e : Expr} {es : List Expr} {t : TA} {p pos : Pos} (D : Def X.prog X.w X.K X.mg X.base k x ps sp) (hr : Room j X.A) (hj : k ≤ j) (hg : Gl X x) (ha : PA X (e :: es) t) (hp : (e :: es).all plainE = true := by rfl) (hdb : (x == ("__debug__" : Str)) = false := by decide) :
    PE X (.Call (.Name x p) (e :: es) [] pos) (tCall sp [] E0 t) := by
  obtain ⟨f, fd, F, b, kp, m⟩ := D.ex
  rw [List.all_cons, Bool.and_eq_true] at hp
  exact pe_call F (hr.mono hj) hg m kp b .nil pass0 ha (hdb := hdb) (he := star_plain hp.1) (hpl := any_plain hp.2)
theorem pe_cB {x : Str} {id : String} {r : List V → Hp → VK → Prop} {e : Expr} {es : List Expr} {t : TA} {p pos : Pos} (hc : CallR X (.builtin id) r) (hg : Gl X x) (hm : X.mg x = none) (hv : bootBuiltins x = some (.builtin id)) (ha : PA X (e :: es) t) (hp : (e :: es).all plainE = true := by rfl) (hn : x ≠ "__name__" := by decide) (hdb : (x == ("__debug__" : Str)) = false := by decide) :
    PE X (.Call (.Name x p) (e :: es) [] pos) (tCB r t) := by
  rw [List.all_cons, Bool.and_eq_true] at hp
  exact pe_callB hc hg hm hv ha hn hdb (star_plain hp.1) (any_plain hp.2)
theorem pe_cT {x : Str} {T : String} {r : List V → Hp → VK → Prop} {e : Expr} {es : List Expr} {t : TA} {p pos : Pos} (hc : CallR X (.type T) r) (hg : Gl X x) (hm : X.mg x = none) (hv : bootBuiltins x = some (.type T)) (ha : PA X (e :: es) t) (hp : (e :: es).all plainE = true := by rfl) (hn : x ≠ "__name__" := by decide) (hdb : (x == ("__debug__" : Str)) = false := by decide) :
    PE X (.Call (.Name x p) (e :: es) [] pos) (tCB r t) := by
  rw [List.all_cons, Bool.and_eq_true] at hp
  exact pe_callTy hc hg hm hv ha hn hdb (star_plain hp.1) (any_plain hp.2)
/-- xs.m(e) of a list, one argument -/
theorem few_plain {cpos : Pos} {e : Expr} {env : Env} (hp : plainE e = true) : ((backTo cpos (starEach [e] env)).all (fun x => !x.1) && (backToKw cpos (keywordEach [] env)).all (fun x => x.1.isSome)
      && decide (([e] : List Expr).length + ([] : List Keyword).length + (if ([] : List Keyword).isEmpty then 0 else 1) < 30)) = true := by
  rw [star_plain hp]; rfl
theorem pe_m1 {o e : Expr} {to te : TE} {name : Str} {apos cpos : Pos} {T id : String} {r : V → List V → Hp → VK → Prop} (pa : PlainAttrs T) (slot : Slot T name id) (hty : typeOf (.builtin id) = pure (.type "method_descriptor")) (hm : MtR X id r) (ho : PE X o to) (ha : PE X e te)
    (hp : plainE e = true := by rfl) (hbase : attributeBase o name X.env (eval o X.env) = eval o X.env := by rfl) (hline : (apos.endLine == cpos.line) = true := by rfl) :
    PE X (.Call (.Attribute o name apos) [e] [] cpos) (tBM X.K T r to (tCons te tNil)) :=
  pe_bm pa slot hty hm ho (pac ha pa_nil hp) hbase (few_plain hp) hline (star_plain hp) rfl
theorem pi_k1 {tg a : Expr} {ta : TA} {p pos : Pos} (hg : Gl X "range") (hm : X.mg "range" = none) (ha : PA X [a] ta) (hp : plainE a = true := by rfl) : PI X tg (.Call (.Name "range" p) [a] [] pos) (mRng1 ta) := pi_r1 hg hm ha (star_plain hp)
theorem pi_k2 {tg a b : Expr} {ta : TA} {p pos : Pos} (hg : Gl X "range") (hm : X.mg "range" = none) (ha : PA X [a, b] ta) (hp : [a, b].all plainE = true := by rfl) : PI X tg (.Call (.Name "range" p) [a, b] [] pos) (mRng2 ta) := by
  have h2 : [b].all plainE = true := by simp only [List.all_cons, List.all_nil, Bool.and_true, Bool.and_eq_true] at hp ⊢; exact hp.2
  exact pi_r2 hg hm ha (star_plains hp) (star_plains h2)
theorem pi_k3 {tg a b c : Expr} {ta : TA} {p pos : Pos} (hg : Gl X "range") (hm : X.mg "range" = none) (ha : PA X [a, b, c] ta) (hp : [a, b, c].all plainE = true := by rfl) : PI X tg (.Call (.Name "range" p) [a, b, c] [] pos) (mRngD ta) := by
  have h2 : [b, c].all plainE = true := by simp only [List.all_cons, List.all_nil, Bool.and_true, Bool.and_eq_true] at hp ⊢; exact hp.2
  exact pi_rd hg hm ha (star_plains hp) (star_plains h2)
def noSet : Expr → Bool
  | .Set .. => false
  | _ => true
theorem fold_plain {e : Expr} {env : Env} (h : noSet e = true) : ∀ x, foldedSetIterable e env x = pure x := by
  intro x; cases e <;> first | rfl | cases h
theorem ps_fr {tg iter : Expr} {body : List Stmt} {wi : TI} {g : TG} {tb : TS} {pos : Pos} (hp : PassesOwn (model X.prog X.w) X.A X.env X.xe) (hc : X.calm = true) (hi : PI X tg iter wi) (hg : PG X tg g) (hb : PSs X body tb)
    (hs : noSet iter = true := by rfl) : PS X (.For tg iter body [] pos) (tFor wi g tb) := ps_for hp hc hi hg hb (fold_plain hs)
def plainG : Expr → Bool
  | .Starred .. => false
  | _ => true
theorem assign_plain {e : Expr} {es : List Expr} {env : Env} (h : plainG e = true) : assignEach (e :: es) env = (false, assign e env) :: assignEach es env := by
  cases e <;> first | rfl | cases h
theorem pgs_c {e : Expr} {es : List Expr} {t : TG} {u : TGs} (h1 : PG X e t) (h2 : PGs X es u) (hp : plainG e = true := by rfl) : PGs X (e :: es) (gCm t u) := pgs_cm h1 h2 (by rw [assign_plain hp]; rfl)
theorem assign_plains {env : Env} : ∀ {es : List Expr}, es.all plainG = true → (assignEach es env).length = es.length ∧ (assignEach es env).findIdx? (·.1) = none
  | [], _ => ⟨rfl, rfl⟩
  | e :: es, h => by
    rw [List.all_cons, Bool.and_eq_true] at h
    obtain ⟨h1, h2⟩ := assign_plains (env := env) h.2
    rw [assign_plain h.1]
    refine ⟨by rw [List.length_cons, h1, List.length_cons], ?_⟩
    rw [List.findIdx?_cons, h2]; rfl
theorem pg_t {es : List Expr} {k : Nat} {t : TGs} {pos : Pos} (hc : X.calm = true) (h : PGs X es t) (hp : es.all plainG = true := by rfl) : PG X (.Tuple es k pos) (gTm X.K es.length t) := pg_tm hc h (assign_plains hp).1 (assign_plains hp).2
end
end L2

set_option linter.all false
set_option Elab.async false
set_option maxRecDepth 100000
set_option maxHeartbeats 4000000
namespace L2
open PySem PySem.Spec PyProof.Rows
/-! The judgements, sealed: a term of these rules is found without a look into the model. -/
structure QE (X : Cx) (e : Expr) (t : TE) : Prop where
  h : PE X e t
structure QT (X : Cx) (e : Expr) (t : TT) : Prop where
  h : PT X e t
structure QW (X : Cx) (e : Expr) (t : TT) : Prop where
  h : PW X e t
structure QA (X : Cx) (es : List Expr) (t : TA) : Prop where
  h : PA X es t
  p : es.all plainE = true
structure QS (X : Cx) (st : Stmt) (t : TS) : Prop where
  h : PS X st t
structure QB (X : Cx) (st : List Stmt) (t : TS) : Prop where
  h : PSs X st t
structure QG (X : Cx) (e : Expr) (t : TG) : Prop where
  h : PG X e t
structure QGs (X : Cx) (es : List Expr) (t : TGs) : Prop where
  h : PGs X es t
  p : es.all plainG = true
structure QI (X : Cx) (tg e : Expr) (t : TI) : Prop where
  h : PI X tg e t
structure QIf (X : Cx) (es : List Expr) (t : TT) : Prop where
  h : PIfs X es t
structure QO (X : Cx) (e : Option Expr) (t : TO) : Prop where
  h : PO X e t
section
variable {X : Cx} {e a b c o tg : Expr} {es rest : List Expr} {te ta tb tc to : TE} {t : TA} {pos p p2 : Pos} {st : Stmt} {sts : List Stmt} {x : Str}
/-! blocks -/
theorem qb_nil : QB X [] tNext := ⟨pss_nil⟩
theorem qb_one {u : TS} (h : QS X st u) : QB X [st] u := ⟨pss_one h.h⟩
theorem qb_cons {u v : TS} (h1 : QS X st u) (h2 : QB X sts v) : QB X (st :: sts) (tSeq u v) := ⟨pss_cons h1.h h2.h⟩
theorem qb_mid {u v : TS} (h1 : QS X st u) (h2 : QB X sts v) : QB X (st :: sts) (mMid u v) := ⟨pss_mid h1.h h2.h⟩
/-! statements -/
theorem qs_ret (h : QE X e te) : QS X (.Return (some e) pos) (tRet te) := ⟨ps_ret h.h⟩
theorem qs_ex (h : QE X e te) (hs : noComp e = true := by rfl) : QS X (.Expr e pos) (tDrop te) := ⟨ps_ex h.h hs⟩
theorem qs_set {i : Nat} (hN : X.N.Nodup) (hi : X.N[i]? = some x) (hx : Loc X.env.scope x) (hf : X.fn x = true ∨ X.env.scope.names.lookup x = some .local) (he : QE X e te) (hs : noComp e = true := by rfl) :
    QS X (.Assign [.Name x p] e pos) (tAsg te (gName i)) := ⟨ps_st hN hi hx he.h hs hf⟩
theorem qs_asg {g : TG} (he : QE X e te) (hg : QG X tg g) (hs : noComp e = true := by rfl) (hw : swappedStores [tg] e X.env = pure none := by rfl) (hp : plainG tg = true := by rfl) : QS X (.Assign [tg] e pos) (tAsg te g) :=
  ⟨ps_asg he.h hg.h (swaps_plain hs) hw (by rw [assign_plain hp]; rfl)⟩
theorem qs_aug {i : Nat} {op : Operator} {ti : TIp} (hN : X.N.Nodup) (hi : X.N[i]? = some x) (hx : Loc X.env.scope x) (hf : X.fn x = true ∨ X.env.scope.names.lookup x = some .local) (he : QE X e te) (ho : PIp X op ti) : QS X (.AugAssign (.Name x p) op e pos) (mAug i te ti) :=
  ⟨ps_augm hN hi hx he.h ho hf⟩
theorem qs_if {s1 s2 : List Stmt} {tc : TT} {u v : TS} (hc : QT X c tc) (ha : QB X s1 u) (hb : QB X s2 v) : QS X (.If c s1 s2 pos) (mIfS tc u v) := ⟨ps_ifm hc.h ha.h hb.h⟩
theorem qs_while {tc : TT} {u : TS} (hp : PassesOwn (model X.prog X.w) X.A X.env X.xe) (hc : QT X c tc) (hb : QB X sts u) : QS X (.While c sts [] pos) (mWhile tc u) := ⟨ps_whm hp hc.h hb.h⟩
theorem qs_for {wi : TI} {g : TG} {u : TS} (hp : PassesOwn (model X.prog X.w) X.A X.env X.xe) (hc : X.calm = true) (hi : QI X tg e wi) (hg : QG X tg g) (hb : QB X sts u) (hs : noSet e = true := by rfl) : QS X (.For tg e sts [] pos) (tFor wi g u) := ⟨ps_fr hp hc hi.h hg.h hb.h hs⟩
/-! targets -/
theorem qg_name {i : Nat} (hN : X.N.Nodup) (hi : X.N[i]? = some x) (hx : Loc X.env.scope x) (hf : X.fn x = true ∨ X.env.scope.names.lookup x = some .local) : QG X (.Name x pos) (gName i) := ⟨pg_name hN hi hx hf⟩
theorem qgs_nil : QGs X [] gNm := ⟨pgs_nm, rfl⟩
theorem qgs_cons {g : TG} {u : TGs} (h1 : QG X e g) (h2 : QGs X es u) (hp : plainG e = true := by rfl) : QGs X (e :: es) (gCm g u) := ⟨pgs_c h1.h h2.h hp, by rw [List.all_cons, hp, h2.p]; rfl⟩
theorem qg_tup {k : Nat} {u : TGs} (hc : X.calm = true) (h : QGs X es u) : QG X (.Tuple es k pos) (gTm X.K es.length u) := ⟨pg_t hc h.h h.p⟩
theorem qg_sub (ho : QE X o to) (hi : QE X e te) (hs : PSet X vSet) (ha : ∀ v, assign (.Subscript o e pos) X.env v = (do
      let ov ← holding [v] (eval o X.env)
      let iv ← holding [v, ov] (eval e X.env)
      standAt pos
      holding [v, ov, iv] (setItem ov iv v)
      release [v, ov, iv] []) := by intro _; rfl) : QG X (.Subscript o e pos) (gSub to te vSet) := ⟨pg_sub ho.h hi.h hs ha⟩
/-! what loops walk -/
theorem qi_list (h : QE X e te) : QI X tg e (mItL X.K te) := ⟨pi_lm h.h⟩
theorem qi_r1 (hg : Gl X "range") (hm : X.mg "range" = none) (h : QA X [a] t) : QI X tg (.Call (.Name "range" p) [a] [] pos) (mRng1 t) := ⟨pi_k1 hg hm h.h (by have := h.p; simpa using this)⟩
theorem qi_r2 (hg : Gl X "range") (hm : X.mg "range" = none) (h : QA X [a, b] t) : QI X tg (.Call (.Name "range" p) [a, b] [] pos) (mRng2 t) := ⟨pi_k2 hg hm h.h h.p⟩
theorem qi_r3 (hg : Gl X "range") (hm : X.mg "range" = none) (h : QA X [a, b, c] t) : QI X tg (.Call (.Name "range" p) [a, b, c] [] pos) (mRngD t) := ⟨pi_k3 hg hm h.h h.p⟩
/-! arguments -/
theorem qa_nil : QA X [] tNil := ⟨pa_nil, rfl⟩
theorem qa_cons (h1 : QE X e te) (h2 : QA X es t) (hp : plainE e = true := by rfl) : QA X (e :: es) (tCons te t) := ⟨pac h1.h h2.h hp, by rw [List.all_cons, hp, h2.p]; rfl⟩
/-! expressions -/
theorem qv (i : Nat) (hN : X.N[i]? = some x) (hv : Vis X.env.scope x) (hd : (x == ("__debug__" : Str)) = false := by decide) (hcd : (x == ("__classdict__" : Str)) = false := by decide) : QE X (.Name x pos) (mVar i) := ⟨mv i hN hv hd hcd⟩
theorem qe_int {i : Int} {j : Nat} : QE X (.Constant (.int i) j pos) (tC (.int i)) := ⟨pe_int⟩
theorem qe_bl {i : Bool} {j : Nat} : QE X (.Constant (.bool i) j pos) (tC (.bl i)) := ⟨pe_bl⟩
theorem qe_ty {T : String} (hg : Gl X x) (hm : X.mg x = none) (hv : bootBuiltins x = some (.type T)) (hn : x ≠ "__name__" := by decide) (hd : (x == ("__debug__" : Str)) = false := by decide) : QE X (.Name x pos) (tC (.ty T)) := ⟨pe_tyn hg hm hv hn hd⟩
theorem qe_op {op : Operator} {r : R2} (ho : OpR X (binaryOp op) r) (ha : QE X a ta) (hb : QE X b tb) : QE X (.BinOp a op b pos) (tOp r ta tb) := ⟨pe_op ho ha.h hb.h⟩
theorem qe_un {op : UnaryOp} {r : V → Hp → VK → Prop} (ho : UnR X (unaryOp op) r) (ha : QE X a ta) : QE X (.UnaryOp op a pos) (tUn r ta) := ⟨pe_un ho ha.h⟩
theorem qe_cmp {op : CmpOp} {r : R2} (ho : OpR X (compareOp op) r) (ha : QE X a ta) (hb : QE X b tb) (h1 : op ≠ .In := by decide) (h2 : op ≠ .NotIn := by decide) : QE X (.Compare a [op] [b] pos) (tOp r ta tb) := ⟨pe_cmpR ho ha.h hb.h (nomark b h1 h2)⟩
theorem qe_lst (h : QA X es t) : QE X (.List es pos) (mLst t) := ⟨pe_lm h.h⟩
theorem qe_tup {k : Nat} (h : QA X es t) : QE X (.Tuple es k pos) (mTup t) := ⟨pe_tm h.h⟩
theorem qo_none : QO X none tNoPart := ⟨po_none⟩
theorem qo_some (h : QE X e te) : QO X (some e) (mPart te) := ⟨po_m h.h⟩
theorem qe_slice {lo hi : Option Expr} {tl th : TO} (he : QE X e te) (hl : QO X lo tl) (hu : QO X hi th) : QE X (.Subscript e (.Slice lo hi none p2) pos) (tSl (vSl X.K) te tl th) := ⟨pe_slice slM he.h hl.h hu.h⟩
theorem qe_ix (ha : QE X a ta) (hb : QE X b tb) (hs : PlainIx b) : QE X (.Subscript a b pos) (tOp (vIx X.K) ta tb) := ⟨pe_ix ixM ha.h hb.h hs⟩
theorem qe_def {k j : Nat} {ps : List Str} {sp : Sp} (D : Def X.prog X.w X.K X.mg X.base k x ps sp) (hr : Room j X.A) (hj : k ≤ j) (hg : Gl X x) (ha : QA X (e :: es) t) (hdb : (x == ("__debug__" : Str)) = false := by decide) : QE X (.Call (.Name x p) (e :: es) [] pos) (tCall sp [] E0 t) := ⟨pe_def D hr hj hg ha.h ha.p hdb⟩
theorem qe_cB {id : String} {r : List V → Hp → VK → Prop} (hc : CallR X (.builtin id) r) (hg : Gl X x) (hm : X.mg x = none) (hv : bootBuiltins x = some (.builtin id)) (ha : QA X (e :: es) t) (hn : x ≠ "__name__" := by decide) (hdb : (x == ("__debug__" : Str)) = false := by decide) : QE X (.Call (.Name x p) (e :: es) [] pos) (tCB r t) := ⟨pe_cB hc hg hm hv ha.h ha.p hn hdb⟩
theorem qe_cT {T : String} {r : List V → Hp → VK → Prop} (hc : CallR X (.type T) r) (hg : Gl X x) (hm : X.mg x = none) (hv : bootBuiltins x = some (.type T)) (ha : QA X (e :: es) t) (hn : x ≠ "__name__" := by decide) (hdb : (x == ("__debug__" : Str)) = false := by decide) : QE X (.Call (.Name x p) (e :: es) [] pos) (tCB r t) := ⟨pe_cT hc hg hm hv ha.h ha.p hn hdb⟩
theorem qe_enumL {pos2 : Pos} (hc : X.calm = true) (hg : Gl X "list") (hm : X.mg "list" = none) (hg2 : Gl X "enumerate") (hm2 : X.mg "enumerate" = none) (ha : QA X [a] t) : QE X (.Call (.Name "list" p) [.Call (.Name "enumerate" p2) [a] [] pos2] [] pos) (tEnumL X.K t) :=
  ⟨pe_enumL hc hg hm hg2 hm2 ha.h (star_plains ha.p)⟩
theorem qe_m1 {name : Str} {T id : String} {r : V → List V → Hp → VK → Prop} (pa : PlainAttrs T) (slot : Slot T name id) (hty : typeOf (.builtin id) = pure (.type "method_descriptor")) (hm : MtR X id r) (ho : QE X o to) (ha : QE X e te)
    (hp : plainE e = true := by rfl) (hbase : attributeBase o name X.env (eval o X.env) = eval o X.env := by rfl) (hline : (p.endLine == pos.line) = true := by rfl) : QE X (.Call (.Attribute o name p) [e] [] pos) (tBM X.K T r to (tCons te tNil)) := ⟨pe_m1 pa slot hty hm ho.h ha.h hp hbase hline⟩
/-! tests -/
theorem qt_cmp {op : CmpOp} {r : R2} (ho : OpR X (compareOp op) r) (ha : QE X a ta) (hb : QE X b tb) (h1 : op ≠ .In := by decide) (h2 : op ≠ .NotIn := by decide) : QT X (.Compare a [op] [b] pos) (mB (tOp r ta tb)) := ⟨pt_cm ho ha.h hb.h (nomark b h1 h2)⟩
theorem qw_and1 {tA : TT} (ha : QT X a tA) : QW X (.BoolOp .And [a] pos) tA := ⟨pw_and1 ha.h⟩
theorem qw_or1 {tA : TT} (ha : QT X a tA) : QW X (.BoolOp .Or [a] pos) tA := ⟨pw_or1 ha.h⟩
theorem qw_and {tA tB' : TT} (ha : QT X a tA) (hb : QW X (.BoolOp .And (b :: rest) pos) tB') : QW X (.BoolOp .And (a :: b :: rest) pos) (mAnd tA tB') := ⟨pw_am ha.h hb.h⟩
theorem qw_or {tA tB' : TT} (ha : QT X a tA) (hb : QW X (.BoolOp .Or (b :: rest) pos) tB') : QW X (.BoolOp .Or (a :: b :: rest) pos) (mOr tA tB') := ⟨pw_om ha.h hb.h⟩
theorem QW.pt {tA : TT} (h : QW X a tA) : QT X a tA := ⟨h.h.pt⟩
theorem qt_not {tA : TT} (ha : QT X a tA) : QT X (.UnaryOp .Not a pos) (tNot tA) := ⟨pt_not ha.h⟩
theorem qt_val (ha : QE X a ta) (he : ∀ whole, isTrue a X.env whole = (do let v ← whole; standAt a.pos; holding [v] (truthy v)) := by intro _; rfl) : QT X a (mT X.K ta) := ⟨pt_m ha.h he⟩
/-! comprehensions -/
theorem qif_nil : QIf X [] tYes := ⟨pifs_nil⟩
theorem qif_one {tA : TT} (h : QT X c tA) : QIf X [c] tA := ⟨pifs_one h.h⟩
theorem qe_comp (N' : List Str) (caps : List (Option Nat)) {elt iter : Expr} {ifs : List Expr} {scope : Scope} {wi : TI} {g : TG} {tt : TT} (hc : X.calm = true) (hi : QI X tg iter wi)
    (hg : ∀ pins cl C s0 H0 fp, QG (cxComp X pins N' scope cl C s0 H0 fp) tg g) (ht : ∀ pins cl C s0 H0 fp, QIf (cxComp X pins N' scope cl C s0 H0 fp) ifs tt) (he : ∀ pins cl C s0 H0 fp, QE (cxComp X pins N' scope cl C s0 H0 fp) elt te)
    (hcap : capOk N' caps X.N X.env.scope.names scope.names = true := by kernel_rfl) (hkind : scope.kind = .function := by rfl) (hs : noSet iter = true := by rfl) :
    QE X (.ListComp elt [⟨tg, iter, ifs, 0⟩] scope pos) (tComp caps wi g tt te) :=
  ⟨pe_comp N' caps hc hi.h (fun a b c d e f => (hg a b c d e f).h) (fun a b c d e f => (ht a b c d e f).h) (fun a b c d e f => (he a b c d e f).h) hcap hkind (fold_plain hs)⟩
theorem qs_comp (N' : List Str) (caps : List (Option Nat)) {i : Nat} {elt iter : Expr} {ifs : List Expr} {scope : Scope} {wi : TI} {g : TG} {tt : TT} (hc : X.calm = true) (hN : X.N.Nodup) (hy : X.N[i]? = some x) (hl : Loc X.env.scope x) (hf : X.fn x = true ∨ X.env.scope.names.lookup x = some .local) (hi : QI X tg iter wi)
    (hg : ∀ pins cl C s0 H0 fp, QG (cxComp X pins N' scope cl C s0 H0 fp) tg g) (ht : ∀ pins cl C s0 H0 fp, QIf (cxComp X pins N' scope cl C s0 H0 fp) ifs tt) (he : ∀ pins cl C s0 H0 fp, QE (cxComp X pins N' scope cl C s0 H0 fp) elt te)
    (hsw : swapsWith (.ListComp elt [⟨tg, iter, ifs, 0⟩] scope pos) (some (.Name x p)) p2.line X.env = pure true := by rfl)
    (hcap : capOk N' caps X.N X.env.scope.names scope.names = true := by kernel_rfl) (hkind : scope.kind = .function := by rfl) (hs : noSet iter = true := by rfl) :
    QS X (.Assign [.Name x p] (.ListComp elt [⟨tg, iter, ifs, 0⟩] scope pos) p2) (tAsg (tComp caps wi g tt te) (gName i)) :=
  ⟨ps_comp N' caps hc hN hy hl hi.h (fun a b c d e f => (hg a b c d e f).h) (fun a b c d e f => (ht a b c d e f).h) (fun a b c d e f => (he a b c d e f).h) hsw hcap hkind (fold_plain hs) hf⟩
end
/-- the rule for a def, by a sealed body -/
theorem Fun.okq {P : Program} {w : World} {K : PySem.W.Frag} {mg : Str → Option Value} {base : Heap} {x qual : Str} {st : Stmt} {f : Addr} {fd : FuncData} {N ps : List Str} {k : Nat} {sp : Sp} (F : Fun K x qual st f fd) (S : FnScope N ps (defScope st)) (len : ∀ vs H Q E, sp vs H Q E → vs.length = ps.length)
    (hbody : ∀ (cdv : Value) (A : Around) (outer : List Env) (s : Shared) (H : Hp) (vs : List V) (Q : VK) (E : XK), Room k (A.deeper (envOfC qual (defScope st) s.heap.objs.size f cdv)) → sp vs H Q E →
      ∃ T : { t : TS // QB (cxOf CX0 P w K mg base N qual (defScope st) f cdv A outer s H E).nox (defBody st) t }, T.1 { nx := fun _ H' => Q .non H', rt := Q } (start N vs) H) : FnOk P w K mg base CX0 (k + 1) f fd ps sp :=
  F.ok S len fun cdv A outer s H vs Q E hr h => let ⟨T, q⟩ := hbody cdv A outer s H vs Q E hr h; ⟨T.1, T.2.h, q⟩
end L2

set_option linter.all false
set_option Elab.async false
set_option maxRecDepth 100000
set_option maxHeartbeats 4000000
namespace L2
open PySem PySem.Spec PyProof.Rows
/-! ### readings, closed upward -/
def upE (t : TE) : TE := fun σ H Q => ∃ P : VK, t σ H P ∧ ∀ v H1, P v H1 → Q v H1
def upT (t : TT) : TT := fun σ H Q => ∃ P : Bool → Hp → Prop, t σ H P ∧ ∀ v H1, P v H1 → Q v H1
def upG (t : TG) : TG := fun v σ H Q => ∃ P : St → Hp → Prop, t v σ H P ∧ ∀ σ1 H1, P σ1 H1 → Q σ1 H1
section
variable {X : Cx} {e a b c tg : Expr} {te : TE} {pos p p2 : Pos} {x : Str}
theorem QE.up (h : QE X e te) : QE X e (upE te) := ⟨by
  intro pins s σ H Q I w
  obtain ⟨P, w, hP⟩ := w
  exact thn (h.h pins s σ H P I w) fun u s1 ⟨v, H1, I1, r1, q1⟩ => ⟨v, H1, I1, r1, hP _ _ q1⟩⟩
theorem QIf.up {es : List Expr} {tt : TT} (h : QIf X es tt) : QIf X es (upT tt) := ⟨by
  intro pins s σ H Q I w
  obtain ⟨P, w, hP⟩ := w
  exact thn (h.h pins s σ H P I w) fun u s1 ⟨H1, I1, q1⟩ => ⟨H1, I1, hP _ _ q1⟩⟩
theorem QG.up {g : TG} (h : QG X e g) : QG X e (upG g) := ⟨by
  intro pins s σ H v u Q I r w
  obtain ⟨P, w, hP⟩ := w
  exact thn (h.h pins s σ H v u P I r w) fun u s1 ⟨σ1, H1, I1, q1⟩ => ⟨σ1, H1, I1, hP _ _ q1⟩⟩
theorem qe_cp (N' : List Str) (caps : List (Option Nat)) {elt iter : Expr} {ifs : List Expr} {scope : Scope} {wi : TI} {g : TG} {tt : TT} (hc : X.calm = true) (hi : QI X tg iter wi)
    (hg : ∀ pins cl C s0 H0 fp, QG (cxComp X pins N' scope cl C s0 H0 fp) tg g) (ht : ∀ pins cl C s0 H0 fp, QIf (cxComp X pins N' scope cl C s0 H0 fp) ifs tt) (he : ∀ pins cl C s0 H0 fp, QE (cxComp X pins N' scope cl C s0 H0 fp) elt te)
    (hcap : capOk N' caps X.N X.env.scope.names scope.names = true := by kernel_rfl) (hkind : scope.kind = .function := by rfl) (hs : noSet iter = true := by rfl) :
    QE X (.ListComp elt [⟨tg, iter, ifs, 0⟩] scope pos) (tComp caps wi (upG g) (upT tt) (upE te)) :=
  qe_comp N' caps hc hi (fun a b c d e f => (hg a b c d e f).up) (fun a b c d e f => (ht a b c d e f).up) (fun a b c d e f => (he a b c d e f).up) hcap hkind hs
theorem qs_cp (N' : List Str) (caps : List (Option Nat)) {i : Nat} {elt iter : Expr} {ifs : List Expr} {scope : Scope} {wi : TI} {g : TG} {tt : TT} (hc : X.calm = true) (hN : X.N.Nodup) (hy : X.N[i]? = some x) (hl : Loc X.env.scope x) (hf : X.fn x = true ∨ X.env.scope.names.lookup x = some .local) (hi : QI X tg iter wi)
    (hg : ∀ pins cl C s0 H0 fp, QG (cxComp X pins N' scope cl C s0 H0 fp) tg g) (ht : ∀ pins cl C s0 H0 fp, QIf (cxComp X pins N' scope cl C s0 H0 fp) ifs tt) (he : ∀ pins cl C s0 H0 fp, QE (cxComp X pins N' scope cl C s0 H0 fp) elt te)
    (hsw : swapsWith (.ListComp elt [⟨tg, iter, ifs, 0⟩] scope pos) (some (.Name x p)) p2.line X.env = pure true := by rfl)
    (hcap : capOk N' caps X.N X.env.scope.names scope.names = true := by kernel_rfl) (hkind : scope.kind = .function := by rfl) (hs : noSet iter = true := by rfl) :
    QS X (.Assign [.Name x p] (.ListComp elt [⟨tg, iter, ifs, 0⟩] scope pos) p2) (tAsg (tComp caps wi (upG g) (upT tt) (upE te)) (gName i)) :=
  qs_comp N' caps hc hN hy hl hf hi (fun a b c d e f => (hg a b c d e f).up) (fun a b c d e f => (ht a b c d e f).up) (fun a b c d e f => (he a b c d e f).up) hsw hcap hkind hs
end
/-- one turn of a comprehension, the new list at D -/
def Turn1 (g : TG) (tt : TT) (te : TE) (D : Addr) (ys : List V) (x : V) (σ : St) (H : Hp) (N : St → Hp → List V → Prop) : Prop :=
  g x σ H fun σ2 H3 => tt σ2 H3 fun b H4 => (b = true → te σ2 H4 fun v H5 => H5 D = some (.lst ys) ∧ ys.length < sizeLine ∧ ∀ H6, Kp [D] H5 H6 → H6 D = some (.lst (ys ++ [v])) → N σ2 H6 (ys ++ [v])) ∧ (b = false → H4 D = some (.lst ys) ∧ N σ2 H4 ys)
theorem turn1_ok {g : TG} {tt : TT} {te : TE} {D : Addr} {ys : List V} {x : V} {σ : St} {H : Hp} {N : St → Hp → List V → Prop} {M : St → Hp → Prop} (h : Turn1 g tt te D ys x σ H N) (hM : ∀ σ H ys, H D = some (.lst ys) → N σ H ys → M σ H) :
    upG g x σ H fun σ2 H3 => upT tt σ2 H3 fun b H4 => if b = true then upE te σ2 H4 fun v H5 => ∃ ys, H5 D = some (.lst ys) ∧ ys.length < sizeLine ∧ M σ2 (upd H5 D (.lst (ys ++ [v]))) else M σ2 H4 := by
  refine ⟨_, h, fun σ2 H3 h => ⟨_, h, fun b H4 h => ?_⟩⟩
  cases b with
  | true => exact iteT ⟨_, h.1 rfl, fun v H5 q => ⟨ys, q.1, q.2.1, hM _ _ _ upd_same (q.2.2 _ kp_upd upd_same)⟩⟩
  | false => exact iteF (hM _ _ _ (h.2 rfl).1 (h.2 rfl).2)
section
variable {g : TG} {tt : TT} {te : TE} {σ0 : St} {H1 : Hp} {Q : Addr → Hp → Prop} {K : PySem.W.Frag}
theorem comp_rng {lo : Int} {n : Nat} (R : Nat → Addr → St → Hp → List V → Prop)
    (h0 : ∀ D H', H1 D = none → Same H1 H' → H' D = some (.lst []) → R 0 D σ0 H' [])
    (hs : ∀ i D σ H ys, i < n → H1 D = none → R i D σ H ys → H D = some (.lst ys) → Turn1 g tt te D ys (.int (lo + i)) σ H (R (i + 1) D))
    (hd : ∀ D σ H ys, H1 D = none → R n D σ H ys → H D = some (.lst ys) → Q D H) : ∀ D, H1 D = none → compRead (Itr lo n) D (upG g) (upT tt) (upE te) σ0 (upd H1 D (.lst [])) fun H2 => Q D H2 := by
  intro D hD
  refine comp_range (fun i σ H => ∃ ys, H D = some (.lst ys) ∧ R i D σ H ys) ⟨[], upd_same, h0 D _ hD (same_upd hD) upd_same⟩ ?_ ?_
  · rintro i σ H hi ⟨ys, e, r⟩
    exact turn1_ok (hs i D σ H ys hi hD r e) fun σ H ys e r => ⟨ys, e, r⟩
  · rintro σ H ⟨ys, e, r⟩
    exact hd D σ H ys hD r e
theorem comp_lst {a : Addr} (xs : List V) (R : Nat → Addr → St → Hp → List V → Prop)
    (h0 : ∀ D H', H1 D = none → Same H1 H' → H' D = some (.lst []) → R 0 D σ0 H' [])
    (hl : ∀ i D σ H ys, H1 D = none → R i D σ H ys → SqL K H a xs)
    (hs : ∀ i x D σ H ys, xs[i]? = some x → H1 D = none → R i D σ H ys → H D = some (.lst ys) → Turn1 g tt te D ys x σ H (R (i + 1) D))
    (hd : ∀ D σ H ys, H1 D = none → R xs.length D σ H ys → H D = some (.lst ys) → Q D H) : ∀ D, H1 D = none → compRead (Itl K a) D (upG g) (upT tt) (upE te) σ0 (upd H1 D (.lst [])) fun H2 => Q D H2 := by
  intro D hD
  refine comp_list (xs := xs) (fun i σ H => ∃ ys, H D = some (.lst ys) ∧ R i D σ H ys) ⟨[], upd_same, h0 D _ hD (same_upd hD) upd_same⟩ ?_ ?_ ?_
  · rintro i σ H _ ⟨ys, e, r⟩
    exact hl i D σ H ys hD r
  · rintro i x σ H hi ⟨ys, e, r⟩
    exact turn1_ok (hs i x D σ H ys hi hD r e) fun σ H ys e r => ⟨ys, e, r⟩
  · rintro σ H ⟨ys, e, r⟩
    exact hd D σ H ys hD r e
end
end L2
namespace L2
open PySem
theorem Kp.new {S : List Addr} {H H5 H6 : Hp} {D : Addr} (k : Kp S H H5) (k6 : Kp [D] H5 H6) (hD : H D = none) : Kp S H H6 := fun b o n q => k6.one (ne_of_none q hD) (k b o n q)
theorem Same.new {H H5 H6 : Hp} {D : Addr} (k : Same H H5) (k6 : Kp [D] H5 H6) (hD : H D = none) : Same H H6 := fun b o q => k6.one (ne_of_none q hD) (k b o q)
theorem Kp.same {S : List Addr} {H H5 H6 : Hp} (k : Kp S H H5) (s : Same H5 H6) : Kp S H H6 := fun b o n q => s b o (k b o n q)
theorem sz_of {n : Nat} (h : n ≤ 100000) : n ≤ sizeLine := by rw [sizeLine_eq]; omega
theorem sz_lt {n : Nat} (h : n ≤ 100000) : n < sizeLine := by rw [sizeLine_eq]; omega
theorem map_snoc (zs : List Int) (z : Int) : zs.map V.int ++ [V.int z] = (zs ++ [z]).map V.int := by rw [List.map_append]; rfl
theorem vints_at {zs : List Int} {i : Nat} {x : V} (h : (zs.map V.int)[i]? = some x) : ∃ z, x = .int z ∧ zs[i]? = some z ∧ z ∈ zs := by
  rw [List.getElem?_map] at h
  cases e : zs[i]? with
  | none => rw [e] at h; cases h
  | some z =>
    rw [e] at h
    exact ⟨z, (Option.some.inj h).symm, rfl, List.mem_of_getElem? e⟩
end L2

set_option linter.all false
set_option Elab.async false
set_option maxRecDepth 100000
set_option maxHeartbeats 4000000
namespace L2
open PySem PySem.Spec PyProof.Rows
/-! ### data that is shown -/
def intsD (ns : List Int) : PyData := .list (ns.map PyData.int)
theorem paired_ints {H : Hp} (n : Nat) : ∀ ns : List Int, Paired (RV n H) (ns.map V.int) (ns.map PyData.int)
  | [] => .nil
  | k :: ns => .cons (by cases n <;> rfl) (paired_ints n ns)
theorem rv_ints {H : Hp} {a : Addr} {ns : List Int} (h : H a = some (.lst (ns.map V.int))) : RV 1 H (.ref a) (intsD ns) := .inl ⟨_, _, .inl h, rfl, paired_ints 0 ns⟩
/-! ### loops, the heap unnamed -/
section
variable {g : TG} {tb : TS} {D : Ends} {σ : St} {H : Hp} {K : PySem.W.Frag}
end
theorem take_snoc {α : Type} {l : List α} {i : Nat} {x : α} (h : l[i]? = some x) : l.take (i + 1) = l.take i ++ [x] := by rw [List.take_add_one, h]; rfl
theorem i_isi {K : PySem.W.Frag} {H : Hp} {Q : VK} {x : V} {t c : String} (ty : TyOf K H x (.type t)) (ht : t ∈ ["NoneType", "bool", "int", "str", "list", "tuple", "dict"]) (hc : c ∈ ["bool", "int", "str", "list", "tuple", "dict"]) (q : Q (.bl (isTy t c)) H) : hIsi K x c H Q := by
  unfold hIsi; exact ⟨t, ty, ht, hc, q⟩
end L2

set_option linter.all false
set_option Elab.async false
set_option maxRecDepth 100000
set_option maxHeartbeats 4000000
namespace L2
open PySem PySem.Spec PyProof.Rows
/-! ### zip over two lists -/
section
variable {X : Cx}
end
section
variable {g : TG} {tt : TT} {te : TE} {σ0 : St} {H1 : Hp} {Q : Addr → Hp → Prop} {K : PySem.W.Frag}
end
end L2

set_option linter.all false
set_option Elab.async false
set_option maxRecDepth 100000
set_option maxHeartbeats 4000000
namespace L2
open PySem PySem.Spec PyProof.Rows
/-! The rules that speak of the written part, with it named. -/
section
variable {X : Cx} {K : PySem.W.Frag} {e a b c o tg : Expr} {es rest : List Expr} {te ta tb tc to : TE} {t : TA} {pos p p2 : Pos} {x : Str}
theorem kg_tup {k : Nat} {u : TGs} (hK : X.K = K) (hc : X.calm = true) (h : QGs X es u) : QG X (.Tuple es k pos) (gTm K es.length u) := hK ▸ qg_tup hc h
theorem ki_list (hK : X.K = K) (h : QE X e te) : QI X tg e (mItL K te) := hK ▸ qi_list h
theorem ke_slice {lo hi : Option Expr} {tl th : TO} (hK : X.K = K) (he : QE X e te) (hl : QO X lo tl) (hu : QO X hi th) : QE X (.Subscript e (.Slice lo hi none p2) pos) (tSl (vSl K) te tl th) := hK ▸ qe_slice he hl hu
theorem ke_ix (hK : X.K = K) (ha : QE X a ta) (hb : QE X b tb) (hs : PlainIx b) : QE X (.Subscript a b pos) (tOp (vIx K) ta tb) := hK ▸ qe_ix ha hb hs
theorem ke_enumL {pos2 : Pos} (hK : X.K = K) (hc : X.calm = true) (hg : Gl X "list") (hm : X.mg "list" = none) (hg2 : Gl X "enumerate") (hm2 : X.mg "enumerate" = none) (ha : QA X [a] t) : QE X (.Call (.Name "list" p) [.Call (.Name "enumerate" p2) [a] [] pos2] [] pos) (tEnumL K t) := hK ▸ qe_enumL hc hg hm hg2 hm2 ha
theorem ke_m1 {name : Str} {T id : String} {r : V → List V → Hp → VK → Prop} (hK : X.K = K) (pa : PlainAttrs T) (slot : Slot T name id) (hty : typeOf (.builtin id) = pure (.type "method_descriptor")) (hm : MtR X id r) (ho : QE X o to) (ha : QE X e te)
    (hp : plainE e = true := by rfl) (hbase : attributeBase o name X.env (eval o X.env) = eval o X.env := by rfl) (hline : (p.endLine == pos.line) = true := by rfl) : QE X (.Call (.Attribute o name p) [e] [] pos) (tBM K T r to (tCons te tNil)) := hK ▸ qe_m1 pa slot hty hm ho ha hp hbase hline
theorem kt_val (hK : X.K = K) (ha : QE X a ta) (he : ∀ whole, isTrue a X.env whole = (do let v ← whole; standAt a.pos; holding [v] (truthy v)) := by intro _; rfl) : QT X a (mT K ta) := hK ▸ qt_val ha he
theorem kMax (hK : X.K = K) (hc : X.calm = true) : CallR X (.builtin "max") (vMax K) := hK ▸ callMax hc
theorem kMin (hK : X.K = K) (hc : X.calm = true) : CallR X (.builtin "min") (vMin K) := hK ▸ callMin hc
theorem kLen (hK : X.K = K) : CallR X (.builtin "len") (vLen K) := hK ▸ callLen
theorem kList (hK : X.K = K) : CallR X (.type "list") (vCopy K) := hK ▸ callList
theorem kIsi (hK : X.K = K) : CallR X (.builtin "isinstance") (vIsi K) := hK ▸ callIsi
def vClr : V → List V → Hp → VK → Prop := fun x vs H Q => match x, vs with
  | .ref a, [] => hClr a H Q
  | _, _ => False
end
/-! ### == and != of things that read as one -/
section
variable {X : Cx}
theorem paired_at {α β : Type} {R : α → β → Prop} : ∀ {xs : List α} {ys : List β}, Paired R xs ys → ∀ (j : Nat) {x : α} {y : β}, xs[j]? = some x → ys[j]? = some y → R x y
  | _, _, .nil, j, _, _, h, _ => by simp at h
  | _, _, .cons r t, 0, _, _, h1, h2 => by simp at h1 h2; subst h1; subst h2; exact r
  | _, _, .cons r t, j + 1, _, _, h1, h2 => paired_at t j (by simpa using h1) (by simpa using h2)
theorem all_true (n : Nat) : ((List.range n).all fun _ => true) = true := by simp
theorem seq_same {pins : List (Addr × Obj)} {σ : St} {H : Hp} {s : Shared} {n : Nat} {A : Around} {xs ys : List V} {us vs : List Value} {ds : List PyData}
    (ih : ∀ (x y : V) (u v : Value) (d : PyData), RV n H x d → RV n H y d → RelV x u → RelV y v → SeqAt.EqAt A s u v true) (p1 : Paired (RV n H) xs ds) (p2 : Paired (RV n H) ys ds) (r1 : Vals xs us) (r2 : Vals ys vs) :
    us.toArray.size = vs.toArray.size ∧ ∀ j (h1 : j < us.toArray.size) (h2 : j < vs.toArray.size), SeqAt.EqAt A s us.toArray[j] vs.toArray[j] ((fun _ => true) j) := by
  have l1 := Paired.length p1
  have l2 := Paired.length p2
  have l3 := Paired.length r1
  have l4 := Paired.length r2
  refine ⟨by simp only [List.size_toArray]; omega, fun j h1 h2 => ?_⟩
  have h1' : j < us.length := by simpa using h1
  have h2' : j < vs.length := by simpa using h2
  have hx : j < xs.length := by omega
  have hy : j < ys.length := by omega
  have hd : j < ds.length := by omega
  exact ih xs[j] ys[j] _ _ ds[j] (paired_at p1 j (List.getElem?_eq_getElem hx) (List.getElem?_eq_getElem hd)) (paired_at p2 j (List.getElem?_eq_getElem hy) (List.getElem?_eq_getElem hd))
    (paired_at r1 j (List.getElem?_eq_getElem hx) (by simp [h1'])) (paired_at r2 j (List.getElem?_eq_getElem hy) (by simp [h2']))
/-- the parts of a thing that reads as data -/
inductive RdP (n : Nat) (H : Hp) (h : Heap) (a : Addr) : PyData → Prop where
  | lst {xs : List V} {us : List Value} {ds : List PyData} (p : Paired (RV n H) xs ds) (r : Vals xs us) (l : h.IsList a us.toArray) : RdP n H h a (.list ds)
  | tup {xs : List V} {us : List Value} {ds : List PyData} (p : Paired (RV n H) xs ds) (r : Vals xs us) (l : h.IsTuple a us.toArray) : RdP n H h a (.tuple ds)
theorem rdP_of {pins : List (Addr × Obj)} {σ : St} {H : Hp} {s : Shared} (I : Inv X pins σ H s) {n : Nat} {a : Addr} {d : PyData} (h : RV (n + 1) H (.ref a) d) : RdP n H s.heap a d := by
  rcases (show (∃ xs ds, Rd H a (.lst xs) ∧ d = .list ds ∧ Paired (RV n H) xs ds) ∨ ∃ xs ds, Rd H a (.tup xs) ∧ d = .tuple ds ∧ Paired (RV n H) xs ds from h) with ⟨xs, ds, h1, rfl, h3⟩ | ⟨xs, ds, h1, rfl, h3⟩
  · obtain ⟨us, r, p, _⟩ := I.list (.inl h1)
    exact .lst h3 r p.isList
  · obtain ⟨us, r, p, _⟩ := I.tuple (.inl h1)
    exact .tup h3 r p
def flatD : V → Option PyData
  | .non => some .none
  | .bl b => some (.bool b)
  | .int i => some (.int i)
  | .str x => some (.str x)
  | _ => none
theorem rv_scal {n : Nat} {H : Hp} {x : V} {d : PyData} (h : RV n H x d) (hx : ∀ a, x ≠ .ref a) : flatD x = some d := by
  cases x with
  | non => have e : d = .none := by cases n <;> exact h
           rw [e]; rfl
  | bl b => have e : d = .bool b := by cases n <;> exact h
            rw [e]; rfl
  | int i => have e : d = .int i := by cases n <;> exact h
             rw [e]; rfl
  | str i => have e : d = .str i := by cases n <;> exact h
             rw [e]; rfl
  | ref a => exact absurd rfl (hx a)
  | byt b => cases n <;> exact (show False from h).elim
  | flt b => cases n <;> exact (show False from h).elim
  | ty b => cases n <;> exact (show False from h).elim
theorem rv_ref {n : Nat} {H : Hp} {a : Addr} {d : PyData} (h : RV n H (.ref a) d) : (∃ ds, d = .list ds) ∨ ∃ ds, d = .tuple ds := by
  cases n with
  | zero => exact (show False from h).elim
  | succ n =>
    rcases (show (∃ xs ds, Rd H a (.lst xs) ∧ d = .list ds ∧ Paired (RV n H) xs ds) ∨ ∃ xs ds, Rd H a (.tup xs) ∧ d = .tuple ds ∧ Paired (RV n H) xs ds from h) with ⟨xs, ds, _, e, _⟩ | ⟨xs, ds, _, e, _⟩
    · exact .inl ⟨ds, e⟩
    · exact .inr ⟨ds, e⟩
theorem flat_no {x : V} {d : PyData} (h : flatD x = some d) : (∀ ds, d ≠ .list ds) ∧ ∀ ds, d ≠ .tuple ds := by
  cases x <;> simp [flatD] at h <;> subst h <;> exact ⟨fun ds e => (by cases e), fun ds e => (by cases e)⟩
theorem flat_inj {x y : V} {d : PyData} (h1 : flatD x = some d) (h2 : flatD y = some d) : x = y := by
  cases x <;> simp [flatD] at h1 <;> subst h1 <;> cases y <;> simp [flatD] at h2 <;> first | rfl | (subst h2; rfl)
theorem both_flat {n : Nat} {H : Hp} {x y : V} {d : PyData} (h1 : RV n H x d) (h2 : RV n H y d) (hx : ∀ a, x ≠ .ref a) : x = y := by
  have f1 := rv_scal h1 hx
  refine flat_inj f1 (rv_scal h2 fun b e => ?_)
  subst e
  rcases rv_ref h2 with ⟨ds, e⟩ | ⟨ds, e⟩
  · exact (flat_no f1).1 ds e
  · exact (flat_no f1).2 ds e
theorem rel_same {x : V} {u v : Value} {d : PyData} {A : Around} {s : Shared} (hf : flatD x = some d) (r1 : RelV x u) (r2 : RelV x v) : SeqAt.EqAt A s u v true := by
  cases x with
  | non => cases r1; cases r2; exact SeqAt.EqAt.same _
  | bl b => cases r1; cases r2; exact SeqAt.EqAt.same _
  | int i =>
    obtain ⟨t, rfl⟩ := r1
    obtain ⟨t', rfl⟩ := r2
    have := SeqAt.EqAt.int_int (A := A) (s := s) i t i t'
    rw [beq_self_eq_true] at this
    exact this
  | str i =>
    obtain ⟨t, rfl⟩ := r1
    obtain ⟨t', rfl⟩ := r2
    have := SeqAt.EqAt.str_str (A := A) (s := s) i t i t'
    rw [beq_self_eq_true] at this
    exact this
  | _ => cases hf
theorem rv_flat {n : Nat} {H : Hp} {x y : V} {u v : Value} {d : PyData} {A : Around} {s : Shared} (h1 : RV n H x d) (h2 : RV n H y d) (r1 : RelV x u) (r2 : RelV y v) (hx : ∀ a, x ≠ .ref a) : SeqAt.EqAt A s u v true := by
  have e := both_flat h1 h2 hx
  subst e
  exact rel_same (rv_scal h1 hx) r1 r2
theorem eqAt_rv {pins : List (Addr × Obj)} {σ : St} {H : Hp} {s : Shared} (I : Inv X pins σ H s) : ∀ (n : Nat) (A : Around), A.units + n < cLine → ∀ (x y : V) (u v : Value) (d : PyData), RV n H x d → RV n H y d → RelV x u → RelV y v → SeqAt.EqAt A s u v true := by
  intro n
  induction n with
  | zero =>
    intro A hA x y u v d h1 h2 r1 r2
    refine rv_flat h1 h2 r1 r2 fun a e => ?_
    subst e
    exact (show False from h1)
  | succ n ih =>
    intro A hA x y u v d h1 h2 r1 r2
    by_cases hx : ∃ a, x = .ref a
    · obtain ⟨a, rfl⟩ := hx
      by_cases hy : ∃ b, y = .ref b
      · obtain ⟨b, rfl⟩ := hy
        cases r1
        cases r2
        by_cases hab : a = b
        · subst hab; exact SeqAt.EqAt.same _
        have ih' := ih A.in1 (by show A.units + 1 + n < cLine; omega)
        have hu : A.units < cLine := by omega
        cases rdP_of I h1 with
        | lst p1 q1 l1 =>
          cases rdP_of I h2 with
          | lst p2 q2 l2 =>
            obtain ⟨z1, z2⟩ := seq_same (pins := pins) (σ := σ) ih' p1 p2 q1 q2
            have := SeqAt.RcAt.lists (A := A) l1 l2 z1 hu z2
            rw [all_true] at this
            exact SeqAt.EqAt.of_refs hab this
        | tup p1 q1 l1 =>
          cases rdP_of I h2 with
          | tup p2 q2 l2 =>
            obtain ⟨z1, z2⟩ := seq_same (pins := pins) (σ := σ) ih' p1 p2 q1 q2
            have := SeqAt.RcAt.tuples (A := A) l1 l2 hu z2
            rw [all_true, z1, beq_self_eq_true] at this
            exact SeqAt.EqAt.of_refs hab this
      · exact absurd ⟨a, (both_flat h2 h1 fun b e => hy ⟨b, e⟩)⟩ hy
    · exact rv_flat h1 h2 r1 r2 fun a e => hx ⟨a, e⟩
@[irreducible] def hEqR (K : PySem.W.Frag) (a b : Addr) (H : Hp) (Q : Bool → Hp → Prop) : Prop := hEqL K a b H Q ∨ ∃ n d, n ≤ 20 ∧ RV (n + 1) H (.ref a) d ∧ RV (n + 1) H (.ref b) d ∧ Q true H
theorem i_eqD {K : PySem.W.Frag} {a b : Addr} {H : Hp} {Q : Bool → Hp → Prop} {d : PyData} (n : Nat) (hn : n ≤ 20) (h1 : RV (n + 1) H (.ref a) d) (h2 : RV (n + 1) H (.ref b) d) (q : Q true H) : hEqR K a b H Q := by unfold hEqR; exact .inr ⟨n, d, hn, h1, h2, q⟩
theorem i_eqI {K : PySem.W.Frag} {a b : Addr} {H : Hp} {Q : Bool → Hp → Prop} {ns ms : List Int} (h1 : SqL K H a (ns.map V.int)) (h2 : SqL K H b (ms.map V.int)) (q : Q (decide (ns = ms)) H) : hEqR K a b H Q := by unfold hEqR; exact .inl (i_eqL h1 h2 q)
def vEqG (K : PySem.W.Frag) (n : Bool → Bool) : R2 := fun x y H Q => match x, y with
  | .int i, .int j => Q (.bl (n (decide (i = j)))) H
  | .str i, .str j => Q (.bl (n (decide (i = j)))) H
  | .bl i, .bl j => Q (.bl (n (decide (i = j)))) H
  | .non, .non => Q (.bl (n true)) H
  | .non, .int _ => Q (.bl (n false)) H
  | .int _, .non => Q (.bl (n false)) H
  | .non, .bl _ => Q (.bl (n false)) H
  | .bl _, .non => Q (.bl (n false)) H
  | .ref a, .ref b => hEqR K a b H fun r H' => Q (.bl (n r)) H'
  | _, _ => False
theorem kEqG {K : PySem.W.Frag} {k : Nat} (hK : X.K = K) (hr : Room k X.A) : OpR X (compareOp .Eq) (vEqG K id) := by
  subst hK
  intro pins s σ H x y v u Q I rx ry h
  cases x <;> cases y <;> first
    | exact (show False from h).elim
    | exact op_eq pins s σ H _ _ v u Q I rx ry ⟨rfl, by rw [dI]; exact h⟩
    | exact op_eq pins s σ H _ _ v u Q I rx ry ⟨rfl, by rw [dS]; exact h⟩
    | exact op_eq pins s σ H _ _ v u Q I rx ry ⟨rfl, by rw [dB]; exact h⟩
    | exact op_eq pins s σ H _ _ v u Q I rx ry ⟨rfl, h⟩
    | skip
  rename_i a b
  have h := (show hEqR X.K a b H _ from h)
  unfold hEqR at h
  rcases h with h | ⟨n, d, hn, h1, h2, q⟩
  · unfold hEqL at h; obtain ⟨xs, ys, h1, h2, h3⟩ := h; exact op_eqI hr pins s σ H _ _ v u Q I rx ry ⟨_, _, xs, ys, rfl, rfl, h1, h2, h3⟩
  · cases rx
    cases ry
    have hu := hr.units
    have ih := eqAt_rv I n X.A.in1 (by show X.A.units + 1 + n < cLine; omega)
    cases rdP_of I h1 with
    | lst p1 q1 l1 =>
      cases rdP_of I h2 with
      | lst p2 q2 l2 =>
        obtain ⟨z1, z2⟩ := seq_same (pins := pins) (σ := σ) ih p1 p2 q1 q2
        exact SeqAt.eq_listAt l1 l2 z1 (by omega) z2 (by rw [all_true]; exact ⟨.bl true, H, I, rfl, q⟩)
    | tup p1 q1 l1 =>
      cases rdP_of I h2 with
      | tup p2 q2 l2 =>
        obtain ⟨z1, z2⟩ := seq_same (pins := pins) (σ := σ) ih p1 p2 q1 q2
        exact SeqAt.eq_tupleAt l1 l2 (by omega) z2 (by rw [all_true, z1, beq_self_eq_true]; exact ⟨.bl true, H, I, rfl, q⟩)
theorem kNeG {K : PySem.W.Frag} {k : Nat} (hK : X.K = K) (hr : Room k X.A) : OpR X (compareOp .NotEq) (vEqG K not) := by
  subst hK
  intro pins s σ H x y v u Q I rx ry h
  cases x <;> cases y <;> first
    | exact (show False from h).elim
    | exact op_ne pins s σ H _ _ v u Q I rx ry ⟨rfl, by rw [dI]; exact h⟩
    | exact op_ne pins s σ H _ _ v u Q I rx ry ⟨rfl, by rw [dS]; exact h⟩
    | exact op_ne pins s σ H _ _ v u Q I rx ry ⟨rfl, by rw [dB]; exact h⟩
    | exact op_ne pins s σ H _ _ v u Q I rx ry ⟨rfl, h⟩
    | skip
  rename_i a b
  have h := (show hEqR X.K a b H _ from h)
  unfold hEqR at h
  have hu := hr.units
  rcases h with h | ⟨n, d, hn, h1, h2, q⟩
  · unfold hEqL at h
    obtain ⟨ns, ms, h1, h2, qq⟩ := h
    cases rx; cases ry
    obtain ⟨its, r1, p1, _⟩ := I.list h1
    obtain ⟨its2, r2, p2, _⟩ := I.list h2
    have i1 := intsAre_of r1
    have i2 := intsAre_of r2
    have l1 := r1.length
    have l2 := r2.length
    rw [List.length_map] at l1 l2
    by_cases hl : ns.length = ms.length
    · refine SeqAt.RcNeAt.lists (e := fun j => decide (ns.getD j 0 = ms.getD j 0)) p1.isList p2.isList (by simp only [List.size_toArray]; omega) hr.units0 (fun j a1 a2 => ?_) _ _ _ _ ?_
      · obtain ⟨t1, e1⟩ := ints_at i1 j a1
        obtain ⟨t2, e2⟩ := ints_at i2 j a2
        rw [e1, e2]
        have := SeqAt.EqAt.int_int (A := X.A.in1) (s := s) (ns.getD j 0) t1 (ms.getD j 0) t2
        rw [Bool.beq_eq_decide_eq] at this
        exact this
      · rw [show its.toArray.size = ns.length by simp only [List.size_toArray]; omega, all_range_eq ns ms hl]
        exact ⟨.bl _, H, I, rfl, qq⟩
    · refine SeqAt.RcNeAt.lists_lengths p1.isList p2.isList (by simp only [List.size_toArray, bne_iff_ne]; omega) hr.units0 _ _ _ _ ⟨.bl true, H, I, rfl, ?_⟩
      have : decide (ns = ms) = false := decide_eq_false fun e => hl (by rw [e])
      rw [this] at qq
      exact qq
  · cases rx
    cases ry
    have ih := eqAt_rv I n X.A.in1 (by show X.A.units + 1 + n < cLine; omega)
    cases rdP_of I h1 with
    | lst p1 q1 l1 =>
      cases rdP_of I h2 with
      | lst p2 q2 l2 =>
        obtain ⟨z1, z2⟩ := seq_same (pins := pins) (σ := σ) ih p1 p2 q1 q2
        exact SeqAt.RcNeAt.lists l1 l2 z1 (by omega) z2 _ _ _ _ (by rw [all_true]; exact ⟨.bl false, H, I, rfl, q⟩)
    | tup p1 q1 l1 =>
      cases rdP_of I h2 with
      | tup p2 q2 l2 =>
        obtain ⟨z1, z2⟩ := seq_same (pins := pins) (σ := σ) ih p1 p2 q1 q2
        exact SeqAt.RcNeAt.tuples l1 l2 (by omega) z2 _ _ _ _ (by rw [all_true, z1, beq_self_eq_true]; exact ⟨.bl false, H, I, rfl, q⟩)
end
end L2

set_option linter.all false
set_option Elab.async false
set_option maxRecDepth 100000
set_option maxHeartbeats 4000000
namespace L2
open PySem PySem.Spec PyProof.Rows
/-! ### range as a value, list(range(..)) -/
section
variable {X : Cx}
end
end L2

set_option linter.all false
set_option Elab.async false
set_option maxRecDepth 100000
set_option maxHeartbeats 4000000
namespace L2
open PySem PySem.Spec PyProof.Rows
/-! ### xs[::-1] -/
section
variable {X : Cx} {e st : Expr} {te : TE} {ts : TO} {p2 pos : Pos} {K : PySem.W.Frag}
@[irreducible] def hRev (K : PySem.W.Frag) (a : Addr) (H : Hp) (Q : VK) : Prop := ∃ xs, SqL K H a xs ∧ ∀ p, H p = none → Q (.ref p) (upd H p (.lst xs.reverse))
theorem i_rev {a : Addr} {H : Hp} {Q : VK} {xs : List V} (h : SqL K H a xs) (q : ∀ p H', H p = none → Same H H' → H' p = some (.lst xs.reverse) → Q (.ref p) H') : hRev K a H Q := by
  unfold hRev; exact ⟨xs, h, fun p hp => q p _ hp (same_upd hp) upd_same⟩
def mRev (K : PySem.W.Frag) (te : TE) (ts : TO) : TE := fun σ H Q => te σ H fun x H1 => ts σ H1 fun s H2 => match x, s with
  | .ref a, some k => k = -1 ∧ hRev K a H2 Q
  | _, _ => False
theorem Vals.rev : ∀ {xs : List V} {us : List Value}, Vals xs us → Vals xs.reverse us.reverse
  | _, _, .nil => .nil
  | _, _, .cons r t => by rw [List.reverse_cons, List.reverse_cons]; exact (Vals.rev t).append (.cons r .nil)
theorem qe_rev (hK : X.K = K) (he : QE X e te) (hs : QO X (some st) ts) (hsub : ∀ v sl, subscripted (.Slice none none (some st) p2) false v sl = operate [v, sl] (getItem v sl) := by intro _ _; rfl) : QE X (.Subscript e (.Slice none none (some st) p2) pos) (mRev K te ts) := ⟨by
  subst hK
  intro pins s σ H Q I h
  refine Subscript_ (thn (he.h pins s σ H _ I h) fun v s1 ⟨x, H1, I1, r1, q1⟩ => ?_)
  refine wpAny_Slice ?_
  rw [evalPart_none]
  refine wpAny_pure ?_
  refine wpAny_pure ?_
  refine thn (hs.h pins s1 σ H1 _ I1 q1) fun vk s2 ⟨k, H2, I2, pk, q2⟩ => ?_
  have I3 : Inv X pins σ H2 { s2 with heap := s2.heap.push { cls := .type "slice", data := .fields #[.none, .none, vk] } } := I2.kept (t' := s2.toks) fun b ob q => Heap.get?_push_of_some _ q
  cases x with
  | ref a =>
    cases k with
    | none => exact (show False from q2).elim
    | some k =>
      obtain ⟨rfl, q⟩ := (show k = -1 ∧ hRev X.K a H2 Q from q2)
      unfold hRev at q
      obtain ⟨xs, hx, q⟩ := q
      cases r1
      obtain ⟨its, r, ht, hz⟩ := I3.list hx
      have hlen := r.length
      have hg : wpAny (model X.prog X.w) X.A (getItem (.ref a) (.ref s2.heap.objs.size)) (EP X pins σ Q) X.xe { s2 with heap := s2.heap.push { cls := .type "slice", data := .fields #[.none, .none, vk] } } := by
        refine wpAny_getItem_list_slice ht.isList (Heap.IsSliceOf.new ..) .none .none pk (by decide) ?_ (by rw [List.size_toArray]; omega)
        rw [PySem.W.krv_pick]
        refine ⟨.ref _, _, I3.laid (t' := s2.toks) (o := .lst xs.reverse) (fun b ob q => Heap.get?_push_of_some _ q) (Nat.le_refl _) ?_, rfl, q _ (I3.hok.fresh (Nat.le_refl _))⟩
        exact ⟨by rw [List.length_reverse]; exact hz, _, 0, Vals.rev r, Heap.get?_push_size _ rfl⟩
      exact tail_any (ops := [.ref a, .ref s2.heap.objs.size]) (ht.isList.typeIs) slot_list_getitem.lookup hg (hsub _ _)
  | _ => exact (show False from q2).elim⟩
end
end L2

set_option linter.all false
set_option Elab.async false
set_option maxRecDepth 100000
set_option maxHeartbeats 4000000
namespace L2
open PySem PySem.Spec PyProof.Rows
/-! ### comprehensions within comprehensions: a block with cells of its own -/
abbrev cxCompN (X : Cx) (pins : List (Addr × Obj)) (N' : List Str) (scope : Scope) (cl : List (Str × Addr)) (C : Addr) (s0 : Shared) (H0 : Hp) (fp : List Addr) : Cx :=
  { cxComp X pins N' scope cl C s0 H0 fp with fn := fun x => scope.names.lookup x == some .cell }
def capOkN (N' : List Str) (caps : List (Option Nat)) (N : List Str) (names names' : List (Str × NameKind)) : Bool :=
  (N'.length == caps.length) && (N'.zip caps).all (fun p => match p.2 with
    | none => true
    | some j => N[j]? == some p.1 && names'.lookup p.1 == some .free) &&
  names'.all (fun p => (p.2 != NameKind.free || ((names.lookup p.1 == some .cell || names.lookup p.1 == some .free) && names'.lookup p.1 == some .free)) && (p.2 != NameKind.local || names'.lookup p.1 == some .local) && (p.2 != NameKind.cell || names'.lookup p.1 == some .cell))
theorem namesN {N' : List Str} {caps : List (Option Nat)} {N : List Str} {names names' : List (Str × NameKind)} (h : capOkN N' caps N names names' = true) :
    (∀ x, (x, NameKind.free) ∈ names' → (names.lookup x = some .cell ∨ names.lookup x = some .free) ∧ names'.lookup x = some .free) ∧ (∀ p ∈ names', p.2 = .local → names'.lookup p.1 = some .local) ∧ ∀ p ∈ names', p.2 = .cell → names'.lookup p.1 = some .cell := by
  have h3 := List.all_eq_true.mp (Bool.and_eq_true_iff.mp h).2
  refine ⟨fun x hx => ?_, fun p hp hl => ?_, fun p hp hl => ?_⟩
  · have := h3 _ hx
    simp only [bne_self_eq_false, Bool.false_or, Bool.and_eq_true, Bool.or_eq_true, beq_iff_eq] at this
    exact this.1.1
  · have := h3 p hp
    rw [hl] at this
    simp only [bne_self_eq_false, Bool.false_or, Bool.and_eq_true, beq_iff_eq] at this
    exact this.1.2
  · have := h3 p hp
    rw [hl] at this
    simp only [bne_self_eq_false, Bool.false_or, Bool.and_eq_true, beq_iff_eq] at this
    exact this.2
theorem cells_app : ∀ {names : List (Str × NameKind)} {n : Nat} {acc : List (Str × Addr)}, cellsFrom n names acc = cellsFrom n names [] ++ acc
  | [], n, acc => rfl
  | (x, k) :: r, n, acc => by
    unfold cellsFrom
    split
    · rw [cells_app (names := r) (acc := (x, n) :: acc), cells_app (names := r) (acc := [(x, n)])]; simp
    · exact cells_app
theorem cells_mem {x : Str} {c : Addr} : ∀ {names : List (Str × NameKind)} {n : Nat} {acc : List (Str × Addr)}, (x, c) ∈ cellsFrom n names acc → (x, c) ∈ acc ∨ (x, NameKind.cell) ∈ names
  | [], n, acc, h => .inl h
  | (y, k) :: r, n, acc, h => by
    unfold cellsFrom at h
    split at h
    · rename_i hk
      rcases cells_mem h with h | h
      · rcases List.mem_cons.mp h with h | h
        · cases h
          have : k = .cell := by simpa using hk
          subst this; exact .inr List.mem_cons_self
        · exact .inl h
      · exact .inr (List.mem_cons_of_mem _ h)
    · rcases cells_mem h with h | h
      · exact .inl h
      · exact .inr (List.mem_cons_of_mem _ h)
theorem relabel_backN {env : Env} : ∀ {names : List (Str × NameKind)} {x : Str},
    ((names.map fun (n, k) => if (k == NameKind.free && env.scope.kind == .function && env.kindOf n == some .cell) then (n, NameKind.cell) else (n, k)).lookup x = some .cell ∨
     (names.map fun (n, k) => if (k == NameKind.free && env.scope.kind == .function && env.kindOf n == some .cell) then (n, NameKind.cell) else (n, k)).lookup x = some .free) → (x, NameKind.free) ∈ names ∨ (x, NameKind.cell) ∈ names
  | [], x, h => by simp at h
  | (n, k) :: r, x, h => by
    have ih := @relabel_backN env r x
    rw [List.map_cons] at h
    generalize (r.map fun (x : Str × NameKind) => match x with | (n, k) => if (k == NameKind.free && env.scope.kind == ScopeKind.function && env.kindOf n == some NameKind.cell) = true then (n, NameKind.cell) else (n, k)) = R at h ih
    dsimp only at h
    have more : (x, NameKind.free) ∈ r ∨ (x, NameKind.cell) ∈ r → (x, NameKind.free) ∈ (n, k) :: r ∨ (x, NameKind.cell) ∈ (n, k) :: r := Or.imp (List.mem_cons_of_mem _) (List.mem_cons_of_mem _)
    by_cases hc : (k == NameKind.free && env.scope.kind == .function && env.kindOf n == some .cell) = true
    · rw [if_pos hc] at h
      cases hx : x == n with
      | true =>
        have hkf : k = .free := by
          rw [Bool.and_eq_true, Bool.and_eq_true] at hc
          exact eq_of_beq hc.1.1
        rw [eq_of_beq hx, hkf]; exact .inl List.mem_cons_self
      | false =>
        rw [List.lookup_cons, hx] at h
        exact more (ih h)
    · rw [if_neg hc] at h
      cases hx : x == n with
      | true =>
        rw [List.lookup_cons, hx] at h
        rcases h with h | h
        · rw [eq_of_beq hx, Option.some.inj h]; exact .inr List.mem_cons_self
        · rw [eq_of_beq hx, Option.some.inj h]; exact .inl List.mem_cons_self
      | false =>
        rw [List.lookup_cons, hx] at h
        exact more (ih h)
theorem newEnv_cells {M : Model} {A : Around} {E : Value → Shared → Prop} {s : Shared} {scope : Scope} {globals : Addr} {closure : List (Str × Addr)} {qual : Str} {env0 : Env} {Q : Env → Shared → Prop}
    (hQ : Q (newEnv scope s.heap.objs.size globals (cellsFrom (s.heap.objs.size + 1) scope.names closure) qual none .none (some env0) builtinsNs) { s with heap := pushCells (s.heap.push { cls := .type "dict", data := .dict #[] }) scope.names }) :
    wpAny M A (newFunctionEnv scope globals closure [] qual none .none (some env0)) Q E s := by
  simp only [newFunctionEnv, Option.isSome_some, if_true]
  refine wpAny_bind (wpAny_alloc ?_)
  refine wpAny_bind (wpAny_layCells _ (fun name kind cells => by cases hkc : kind == NameKind.cell <;> simp [hkc]) _ _ _ _ ?_)
  rw [show ({ s with heap := s.heap.push { cls := .type "dict", data := .dict #[] } } : Shared).heap.objs.size = s.heap.objs.size + 1 from Heap.size_push ..]
  refine wpAny_bind ?_
  rw [List.forIn_nil]
  exact wpAny_pure (wpAny_pure hQ)
section
variable {X : Cx} {pins : List (Addr × Obj)} {σ : St} {H : Hp} {s : Shared}
/-- at a block's entry -/
theorem comp_startN {N' : List Str} {caps : List (Option Nat)} {scope : Scope} {cl : List (Str × Addr)} {fp : List Addr} {h1 : Heap} {tk : Nat} (I : Inv X pins σ H s) (hfp : ∀ b ∈ fp, FpOk X pins H b) (hfo : ∀ b ∈ fp, ∃ o, s.heap.get? b = some o)
    (hcap : capOkN N' caps X.N X.env.scope.names scope.names = true) (hkind : scope.kind = .function) (hC : Clo scope X.env cl)
    (hns : h1.Ns (s.heap.objs.size + 1) fun _ => none) (hk1 : ∀ b o, ((s.heap.push { cls := .type "list", data := .seq #[] }).push { cls := .type "dict", data := .dict #[] }).get? b = some o → h1.get? b = some o) (hcs : CellsOk h1 (s.heap.objs.size + 2) (cellsFrom (s.heap.objs.size + 2) scope.names [])) :
    Inv (cxCompN X pins N' scope (cellsFrom (s.heap.objs.size + 2) scope.names cl) (s.heap.objs.size + 1) { s with heap := s.heap.push { cls := .type "list", data := .seq #[] } } (upd H s.heap.objs.size (.lst [])) fp) [] (capSt caps σ) (upd H s.heap.objs.size (.lst [])) { s with heap := h1, toks := tk } := by
  have hn : H s.heap.objs.size = none := I.hok.fresh (Nat.le_refl _)
  have hz : (s.heap.push { cls := .type "list", data := .seq #[] }).objs.size = s.heap.objs.size + 1 := Heap.size_push ..
  have up1 : ∀ b o, s.heap.get? b = some o → (s.heap.push { cls := .type "list", data := .seq #[] }).get? b = some o := fun b o e => Heap.get?_push_of_some _ e
  have up2 : ∀ b o, (s.heap.push { cls := .type "list", data := .seq #[] }).get? b = some o → h1.get? b = some o := fun b o e => by
    exact hk1 b o (Heap.get?_push_of_some _ e)
  have I1 : Inv X pins σ (upd H s.heap.objs.size (.lst [])) { s with heap := s.heap.push { cls := .type "list", data := .seq #[] }, toks := s.toks } :=
    I.laid (t' := s.toks) up1 (Nat.le_refl _) (show ObjOk X.prog X.w _ _ _ (.lst []) from ⟨Nat.zero_le _, [], 0, .nil, Heap.get?_push_size _ rfl⟩)
  obtain ⟨hcap1, hcap3⟩ := Bool.and_eq_true_iff.mp hcap
  obtain ⟨hcap1, hcap2⟩ := Bool.and_eq_true_iff.mp hcap1
  have hlen : N'.length = caps.length := by simpa using hcap1
  have hcap3' := List.all_eq_true.mp hcap3
  have capC : ∀ x, (x, NameKind.cell) ∈ scope.names → scope.names.lookup x = some .cell := fun x hx => (namesN hcap).2.2 _ hx rfl
  have capF : ∀ x, (x, NameKind.free) ∈ scope.names → scope.names.lookup x = some .free := fun x hx => ((namesN hcap).1 x hx).2
  have two : ∀ x c, (cellsFrom (s.heap.objs.size + 2) scope.names cl).lookup x = some c → ((x, NameKind.cell) ∈ scope.names ∧ (x, c) ∈ cellsFrom (s.heap.objs.size + 2) scope.names []) ∨ cl.lookup x = some c := fun x c e => by
    rw [cells_app, List.lookup_append] at e
    cases q : (cellsFrom (s.heap.objs.size + 2) scope.names []).lookup x with
    | none => rw [q] at e; exact .inr e
    | some c' =>
      rw [q] at e; cases e
      have hm := PySem.mem_of_lookup q
      exact .inl ⟨(cells_mem hm).resolve_left (by simp), hm⟩
  have oldLt : ∀ x c, cl.lookup x = some c → c < s.heap.objs.size := fun x c e => by
    obtain ⟨v, z⟩ := I.cell x c (hC.sub x c e); exact z.lt
  have newGe : ∀ x c, (x, c) ∈ cellsFrom (s.heap.objs.size + 2) scope.names [] → s.heap.objs.size + 2 ≤ c := fun x c e => (hcs.empty x c e).2
  have hsub := I.stkSub
  have ltS : ∀ b o, s.heap.get? b = some o → b < s.heap.objs.size := fun b o e => Heap.lt_size e
  refine ⟨⟨I.ok.mod, hkind, I.ok.glob, I.ok.blt, Nat.le_of_eq hz, fun x y c e1 e2 => ?_, fun x hx => ?_, fun x c hf e => ?_, I.ok.hd, I.ok.frames, .inl rfl, fun b hb => ?_, fun b o e => ?_, ?_, fun b o e hb => ?_, fun b hb hf => ?_, ?_, fun b hb => ?_⟩,
    rfl, I.bare, Un.kept up2, ⟨_, hns, fun i x v e1 e2 e3 => ?_⟩, fun x c e => ?_, ?_, fun x c e => ?_, fun p hp => ?_, I1.hok.kept up2, ?_⟩
  · rcases two x c e1 with ⟨_, h1⟩ | h1 <;> rcases two y c e2 with ⟨_, h2⟩ | h2
    · exact name_of_addr hcs.apart h1 h2
    · exact absurd (Nat.lt_of_lt_of_le (oldLt _ _ h2) (Nat.le_trans (Nat.le_add_right _ 2) (newGe _ _ h1))) (Nat.lt_irrefl _)
    · exact absurd (Nat.lt_of_lt_of_le (oldLt _ _ h1) (Nat.le_trans (Nat.le_add_right _ 2) (newGe _ _ h2))) (Nat.lt_irrefl _)
    · exact I.ok.inj x y c (hC.sub x c h1) (hC.sub y c h2)
  · have some_ : ∀ c0, ((cellsFrom (s.heap.objs.size + 2) scope.names []).lookup x = some c0 ∨ cl.lookup x = some c0) → ∃ c, (cellsFrom (s.heap.objs.size + 2) scope.names cl).lookup x = some c := fun c0 h => by
      rw [cells_app, List.lookup_append]
      cases q : (cellsFrom (s.heap.objs.size + 2) scope.names []).lookup x with
      | some c' => exact ⟨c', rfl⟩
      | none =>
        rcases h with h | h
        · rw [q] at h; cases h
        · exact ⟨c0, h⟩
    rcases relabel_backN hx with h | h
    · obtain ⟨c0, e0⟩ := hC.has x h; exact some_ c0 (.inr e0)
    · obtain ⟨c0, e0⟩ := cell_has (n := s.heap.objs.size + 2) (capC x h); exact some_ c0 (.inl e0)
  · have hf' : scope.names.lookup x = some .cell := by simpa using (show (scope.names.lookup x == some NameKind.cell) = true from hf)
    obtain ⟨c0, e0⟩ := cell_has (n := s.heap.objs.size + 2) hf'
    have e' : (cellsFrom (s.heap.objs.size + 2) scope.names cl).lookup x = some c := e
    rw [cells_app, List.lookup_append, e0] at e'
    cases e'
    have := newGe _ _ (PySem.mem_of_lookup e0)
    show (s.heap.push _).objs.size ≤ _
    rw [hz]; omega
  · obtain ⟨o, ho⟩ := hfo b hb
    obtain ⟨f0, f1, f2, f3, f4, f5⟩ := hfp b hb
    refine ⟨Nat.ne_of_lt (Nat.lt_succ_of_lt (ltS b o ho)), fun x c e => ?_⟩
    rcases two x c e with ⟨_, h⟩ | h
    · exact Nat.ne_of_gt (Nat.lt_of_lt_of_le (ltS b o ho) (Nat.le_trans (Nat.le_add_right _ 2) (newGe _ _ h)))
    · exact f4 x c (hC.sub x c h)
  · have q := I1.bs b o e
    exact q
  · show X.base.objs.size ≤ (s.heap.push _).objs.size
    rw [hz]
    exact Nat.le_trans (Nat.le_trans I.ok.bsz I.sz) (Nat.le_succ _)
  · obtain ⟨f0, f1, f2, f3, f4, f5⟩ := hfp b hb
    rcases f3 with f3 | f3
    · exact I.ok.noex b o e f3
    · exact absurd (Nat.lt_of_lt_of_le (Heap.lt_size e) (Nat.le_trans I.ok.bsz f3)) (Nat.lt_irrefl _)
  · obtain ⟨f0, f1, f2, f3, f4, f5⟩ := hfp b hb
    rcases List.mem_cons.mp (hsub b hf) with z | z
    · exact f1 z
    · exact f2 z
  · exact I1.stack
  · exact I1.stkFree b hb
  · -- the captured names
    have e2' : ∃ o, caps[i]? = some o ∧ (match o with | none => none | some j => (σ[j]?).join) = some v := by
      unfold capSt at e2
      rw [List.getElem?_map] at e2
      cases q : caps[i]? with
      | none => rw [q] at e2; cases e2
      | some o => rw [q] at e2; exact ⟨o, rfl, Option.some.inj e2⟩
    obtain ⟨o, ho, hv⟩ := e2'
    cases o with
    | none => cases hv
    | some j =>
      have hv' : (σ[j]?).join = some v := hv
      have hσ : σ[j]? = some (some v) := by
        cases q : σ[j]? with
        | none => rw [q] at hv'; cases hv'
        | some w => rw [q] at hv'; rw [show w = some v from hv']
      have hzip : (x, some j) ∈ N'.zip caps := by
        refine List.mem_iff_getElem?.mpr ⟨i, ?_⟩
        rw [List.getElem?_zip_eq_some]
        exact ⟨e1, ho⟩
      have q := List.all_eq_true.mp hcap2 _ hzip
      simp only [Bool.and_eq_true, beq_iff_eq] at q
      obtain ⟨q1, q2⟩ := q
      have q3 := hcap3' _ (find_names q2)
      have q4 : X.env.scope.names.lookup x = some .cell ∨ X.env.scope.names.lookup x = some .free := by
        exact ((namesN hcap).1 x (find_names q2)).1
      obtain ⟨m, _, hl⟩ := I.loc
      obtain ⟨u, ru, lk⟩ := hl j x v q1 hσ (.inr q4)
      refine ⟨u, ru, .inr ⟨relabel_free q2, ?_⟩⟩
      have q5 : X.env.kindOf x = some .cell ∨ X.env.kindOf x = some .free := q4
      rcases lk with ⟨k, _⟩ | ⟨_, c, ec, hc⟩
      · rcases q5 with q5 | q5 <;> (rw [q5] at k; cases k)
      · obtain ⟨c', ec'⟩ := hC.has x (find_names q2)
        have := hC.sub x c' ec'
        rw [ec] at this
        cases this
        obtain ⟨oc, hoc, hdc⟩ := hc
        refine ⟨c, ?_, oc, up2 _ _ (up1 _ _ hoc), hdc⟩
        show (cellsFrom (s.heap.objs.size + 2) scope.names cl).lookup x = some c
        rw [cells_app, List.lookup_append]
        cases q : (cellsFrom (s.heap.objs.size + 2) scope.names []).lookup x with
        | none => exact ec'
        | some c'' =>
          have := capC x ((cells_mem (PySem.mem_of_lookup q)).resolve_left (by simp))
          rw [q2] at this; cases this
  · rcases two x c e with ⟨_, h⟩ | h
    · exact ⟨none, (hcs.empty x c h).1⟩
    · obtain ⟨v, oc, hoc, hdc⟩ := I.cell x c (hC.sub x c h)
      exact ⟨v, oc, up2 _ _ (up1 _ _ hoc), hdc⟩
  · show upd H _ _ (s.heap.objs.size + 1) = none
    rw [upd_ne (Nat.ne_of_gt (Nat.lt_succ_self _))]
    exact I.hok.fresh (Nat.le_succ _)
  · rcases two x c e with ⟨_, h⟩ | h
    · have := newGe _ _ h
      rw [upd_ne (Nat.ne_of_gt (Nat.lt_of_lt_of_le (Nat.lt_add_of_pos_right (by decide)) this))]
      exact I.hok.fresh (Nat.le_trans (Nat.le_add_right _ 2) this)
    · exact I1.freeC x c (hC.sub x c h)
  · have hp' : p ∈ X.pn ++ pins := by simpa using hp
    obtain ⟨a1, a2, a3, a4, a5⟩ := I1.pin p hp'
    obtain ⟨b1, _, _, _, _⟩ := I.pin p hp'
    refine ⟨up2 _ _ a1, a2, Nat.ne_of_lt (Nat.lt_succ_of_lt (ltS _ _ b1)), fun hf => ?_, a5⟩
    rcases List.mem_cons.mp (hsub p.1 hf) with z | z
    · exact a3 z
    · exact a4 z
  · show (capSt caps σ).length = N'.length
    unfold capSt
    rw [List.length_map, hlen]
/-- behind a block: the outer context again -/
theorem comp_backN {N' : List Str} {scope : Scope} {cl : List (Str × Addr)} {fp : List Addr} {C : Addr} {pins' : List (Addr × Obj)} {σ' : St} {H' : Hp} {s' : Shared} (I : Inv X pins σ H s) (hfp : ∀ b ∈ fp, FpOk X pins H b)
    (J : Inv (cxCompN X pins N' scope cl C { s with heap := s.heap.push { cls := .type "list", data := .seq #[] } } (upd H s.heap.objs.size (.lst [])) fp) pins' σ' H' s') : Inv X pins σ H' s' := by
  have hn : H s.heap.objs.size = none := I.hok.fresh (Nat.le_refl _)
  refine I.call' (ch := fp) J.os ?_ J.hok J.bare fun b hb => ?_
  · exact (Un.laid (fun b o e => Heap.get?_push_of_some _ e) (Nat.le_refl _) hn).trans J.base
  · obtain ⟨f0, f1, f2, f3, f4, f5⟩ := hfp b hb
    exact ⟨f3, f1, f4, f5⟩
end
section
variable {X : Cx} {tg elt iter : Expr} {ifs : List Expr} {scope : Scope} {pos : Pos}
/-- the block, from the iterator on -/
theorem comp_blockN {N' : List Str} {caps : List (Option Nat)} {pins : List (Addr × Obj)} {σ : St} {H : Hp} {s : Shared} {J : It} {fp : List Addr} {it : Addr} {tn : Nat → Heap → Prop} {g : TG} {tt : TT} {te : TE} {cl : List (Str × Addr)} {RR : Value → Addr → Result → Shared → Prop} {Qe : Addr → Hp → Prop}
    (hc : X.calm = true) (hcap : capOkN N' caps X.N X.env.scope.names scope.names = true) (hkind : scope.kind = .function) (hC : Clo scope X.env cl)
    (hg : ∀ cl C s0 H0 fp, PG (cxCompN X pins N' scope cl C s0 H0 fp) tg g) (ht : ∀ cl C s0 H0 fp, PIfs (cxCompN X pins N' scope cl C s0 H0 fp) ifs tt) (he : ∀ cl C s0 H0 fp, PE (cxCompN X pins N' scope cl C s0 H0 fp) elt te)
    (I : Inv X pins σ H s) (T : Turn X.prog X.w X.K tg J fp it tn) (st : tn 0 s.heap) (hf : ∀ b ∈ fp, FpOk X pins H b) (q : ∀ D, H D = none → compRead J D g tt te (capSt caps σ) (upd H D (.lst [])) (Qe D))
    (hR : ∀ (D C : Addr) (s' : Shared) (H' : Hp), Inv X pins σ H' s' → Qe D H' → D ≠ C → (∃ o m, s'.heap.get? C = some o ∧ (∀ v, o.data ≠ .cell v) ∧ (∀ h2 : Heap, h2.get? C = some o → h2.Ns C m)) → H' C = none → s.heap.objs.size ≤ C → RR (.ref D) C (.ok .next) s') :
    wpAny (model X.prog X.w) X.A (newList []) (fun acc s₃ => wpAny (model X.prog X.w) X.A (newFunctionEnv scope X.env.globals cl [] X.env.qual none .none (some X.env)) (fun cenv s₄ =>
      codeAny (model X.prog X.w) X.A (.compStart (.ListComp elt [⟨tg, iter, ifs, 0⟩] scope pos) 0 (.ref it) acc { cenv with scope := relabel scope X.env }) (RR acc cenv.locals) s₄) X.xe s₃) X.xe s := by
  refine wpAny_newObj_type (newEnv_cells ?_)
  have hz : (s.heap.push { cls := .type "list", data := .seq #[] }).objs.size = s.heap.objs.size + 1 := Heap.size_push ..
  obtain ⟨h₁, hh1⟩ : ∃ h₁, pushCells ((s.heap.push { cls := .type "list", data := .seq #[] }).push { cls := .type "dict", data := .dict #[] }) scope.names = h₁ := ⟨_, rfl⟩
  have hk1 : ∀ b o, ((s.heap.push { cls := .type "list", data := .seq #[] }).push { cls := .type "dict", data := .dict #[] }).get? b = some o → h₁.get? b = some o := fun b o e => by rw [← hh1]; exact pushCells_keeps _ _ b o e
  have hns : h₁.Ns (s.heap.objs.size + 1) fun _ => none := by
    have := (Heap.Ns.new (s.heap.push { cls := .type "list", data := .seq #[] }) (.type "dict")).keeps hk1
    rw [hz] at this; exact this
  have hz2' : ((s.heap.push { cls := .type "list", data := .seq #[] }).push { cls := .type "dict", data := .dict #[] }).objs.size = s.heap.objs.size + 2 := by rw [Heap.size_push, hz]
  have hcs : CellsOk h₁ (s.heap.objs.size + 2) (cellsFrom (s.heap.objs.size + 2) scope.names []) := by
    have := cellsFrom_ok scope.names ((s.heap.push { cls := .type "list", data := .seq #[] }).push { cls := .type "dict", data := .dict #[] }) (s.heap.objs.size + 2) [] ⟨fun _ _ hm => (nomatch hm), List.Pairwise.nil⟩ (by rw [hz2']; exact Nat.le_refl _)
    rw [hz2', hh1] at this; exact this
  have hfo : ∀ b ∈ fp, ∃ o, s.heap.get? b = some o := fun b hb => let ⟨o, e, _⟩ := T.obj 0 _ st b hb; ⟨o, e⟩
  have I1 := comp_startN (tk := s.toks) I hf hfo hcap hkind hC hns hk1 hcs
  have hn : H s.heap.objs.size = none := I.hok.fresh (Nat.le_refl _)
  have up : ∀ b o, s.heap.get? b = some o → h₁.get? b = some o := fun b o e => hk1 b o (Heap.get?_push_of_some _ (Heap.get?_push_of_some _ e))
  have st1 : tn 0 h₁ := T.keep _ _ _ st fun b _ o e => up b o e
  have f1 : ∀ b ∈ fp, FpOk (cxCompN X pins N' scope (cellsFrom (s.heap.objs.size + 2) scope.names cl) (s.heap.objs.size + 1) { s with heap := s.heap.push { cls := .type "list", data := .seq #[] } } (upd H s.heap.objs.size (.lst [])) fp) [] (upd H s.heap.objs.size (.lst [])) b := fun b hb => by
    obtain ⟨a0, a1, a2, a3, a4, a5⟩ := hf b hb
    obtain ⟨o, ho⟩ := hfo b hb
    have hlt := Heap.lt_size ho
    refine ⟨by rw [upd_ne (Nat.ne_of_lt hlt)]; exact a0, Nat.ne_of_lt (Nat.lt_succ_of_lt hlt), fun z => ?_, .inl hb, fun x c e => (I1.ok.exf b hb).2 x c e, fun p hp => a5 p (by simpa using hp)⟩
    rcases List.mem_cons.mp (I.stkSub b z) with z | z
    · exact a1 z
    · exact a2 z
  have loop : codeAny (model X.prog X.w) X.A (.compLoop (.ListComp elt [⟨tg, iter, ifs, 0⟩] scope pos) 0 (.ref it) (.ref s.heap.objs.size) (compEnvC scope (cellsFrom (s.heap.objs.size + 2) scope.names cl) (s.heap.objs.size + 1) X.env))
      (RR (.ref s.heap.objs.size) (s.heap.objs.size + 1)) { s with heap := h₁ } := by
    refine comp_loop (X' := cxCompN X pins N' scope (cellsFrom (s.heap.objs.size + 2) scope.names cl) (s.heap.objs.size + 1) { s with heap := s.heap.push { cls := .type "list", data := .seq #[] } } (upd H s.heap.objs.size (.lst [])) fp) hc rfl T (hg _ _ _ _ _) (ht _ _ _ _ _) (he _ _ _ _ _) I1 f1 st1 (q _ hn) fun s' σ' H' J' qe => ?_
    have B := comp_backN I hf J'
    obtain ⟨m, hnC, _⟩ := J'.loc
    obtain ⟨o, es, ep, ho, hd, r⟩ := id hnC
    exact hR _ _ s' H' B qe (Nat.ne_of_lt (Nat.lt_succ_self _)) ⟨o, m, ho, (fun v z => by rw [hd] at z; cases z), fun h2 e2 => ⟨o, es, ep, e2, hd, r⟩⟩ J'.free (Nat.le_succ _)
  have fin := codeAny_compStart_list loop (T.self _ _ _ _ _ st1 loop)
  show codeAny _ _ (.compStart _ 0 _ _ { (newEnv scope (s.heap.push { cls := .type "list", dict := none, data := .seq ([] : List Value).toArray }).objs.size X.env.globals (cellsFrom ((s.heap.push { cls := .type "list", dict := none, data := .seq ([] : List Value).toArray }).objs.size + 1) scope.names cl) X.env.qual none .none (some X.env) _) with scope := relabel scope X.env }) (RR _ (s.heap.push { cls := .type "list", dict := none, data := .seq ([] : List Value).toArray }).objs.size) { s with heap := pushCells _ _ }
  have hz2 : (s.heap.push { cls := .type "list", dict := none, data := .seq ([] : List Value).toArray }).objs.size = s.heap.objs.size + 1 := hz
  rw [hz2]
  have hh1' : pushCells ((s.heap.push { cls := .type "list", dict := none, data := .seq ([] : List Value).toArray }).push { cls := .type "dict", data := .dict #[] }) scope.names = h₁ := hh1
  rw [hh1']
  exact fin
theorem clo_ofN {N' : List Str} {caps : List (Option Nat)} {pins : List (Addr × Obj)} {σ : St} {H : Hp} {s : Shared} (I : Inv X pins σ H s) (hcap : capOkN N' caps X.N X.env.scope.names scope.names = true) : ∃ cl, Clo scope X.env cl :=
  clo_mk fun x hx => I.ok.has x ((namesN hcap).1 x hx).1
/-- [elt for tg in iter if ..] -/
theorem pe_compN (N' : List Str) (caps : List (Option Nat)) {wi : TI} {g : TG} {tt : TT} {te : TE} (hc : X.calm = true) (hi : PI X tg iter wi)
    (hg : ∀ pins cl C s0 H0 fp, PG (cxCompN X pins N' scope cl C s0 H0 fp) tg g) (ht : ∀ pins cl C s0 H0 fp, PIfs (cxCompN X pins N' scope cl C s0 H0 fp) ifs tt) (he : ∀ pins cl C s0 H0 fp, PE (cxCompN X pins N' scope cl C s0 H0 fp) elt te)
    (hcap : capOkN N' caps X.N X.env.scope.names scope.names = true := by rfl) (hkind : scope.kind = .function := by rfl) (hs : ∀ x, foldedSetIterable iter X.env x = pure x := by intro _; rfl) :
    PE X (.ListComp elt [⟨tg, iter, ifs, 0⟩] scope pos) (tComp caps wi g tt te) := by
  intro pins s σ H Q I h
  obtain ⟨cl, hC⟩ := clo_ofN I hcap
  rw [eval_ListComp]
  refine wpAny_comprehension_free (use := none) rfl hs hC.eq hkind (namesN hcap).2.1 (thn (hi pins s σ H _ I h) fun v s1 h1 => thn h1 fun itv s2 h2 => ?_)
  obtain ⟨it, fp, tn, J, H2, e, I2, T, st2, f2, q2⟩ := h2
  subst e
  refine comp_blockN (RR := fun acc C => compPost (model X.prog X.w) X.A X.xe none (EP X pins σ Q) acc C) (Qe := fun D H' => Q (.ref D) H') hc hcap hkind hC (hg pins) (ht pins) (he pins) I2 T st2 f2 q2 fun D C s' H' I' q' hDC hCo hCn hCs => ?_
  obtain ⟨o, m, ho, hd, hns⟩ := hCo
  refine ⟨m, hns _ ho, fun h' hsb => ⟨.ref D, H', ?_, rfl, q'⟩⟩
  obtain ⟨hp', g', d', t', os'⟩ := s'
  have hC0 : X.s₀.heap.objs.size ≤ C := Nat.le_trans I2.sz hCs
  exact I'.turned (t' := t') (it := C) (fun b o hb e => hsb.extBut b o hb e) hCn (fun z => by
    have := I2.lt; rw [← z] at this; exact absurd (Nat.lt_of_lt_of_le this hCs) (Nat.lt_irrefl _)) (.inr hC0) (fun x c e z => by
    obtain ⟨v, q⟩ := I2.cell x c e
    exact absurd (Nat.lt_of_lt_of_le q.lt (by rw [z]; exact hCs)) (Nat.lt_irrefl _)) (fun p hp z => by
    exact absurd (Nat.lt_of_lt_of_le (Heap.lt_size (I2.pin p hp).1) (by rw [z]; exact hCs)) (Nat.lt_irrefl _))
end
section
variable {X : Cx} {e a b c tg : Expr} {te : TE} {pos p p2 : Pos} {x : Str}
theorem qe_cpN (N' : List Str) (caps : List (Option Nat)) {elt iter : Expr} {ifs : List Expr} {scope : Scope} {wi : TI} {g : TG} {tt : TT} (hc : X.calm = true) (hi : QI X tg iter wi)
    (hg : ∀ pins cl C s0 H0 fp, QG (cxCompN X pins N' scope cl C s0 H0 fp) tg g) (ht : ∀ pins cl C s0 H0 fp, QIf (cxCompN X pins N' scope cl C s0 H0 fp) ifs tt) (he : ∀ pins cl C s0 H0 fp, QE (cxCompN X pins N' scope cl C s0 H0 fp) elt te)
    (hcap : capOkN N' caps X.N X.env.scope.names scope.names = true := by kernel_rfl) (hkind : scope.kind = .function := by rfl) (hs : noSet iter = true := by rfl) :
    QE X (.ListComp elt [⟨tg, iter, ifs, 0⟩] scope pos) (tComp caps wi (upG g) (upT tt) (upE te)) :=
  ⟨pe_compN N' caps hc hi.h (fun a b c d e f => (hg a b c d e f).up.h) (fun a b c d e f => (ht a b c d e f).up.h) (fun a b c d e f => (he a b c d e f).up.h) hcap hkind (fold_plain hs)⟩
end
end L2

set_option linter.all false
set_option Elab.async false
namespace L2
open PySem
section
variable {X : Cx} {K : PySem.W.Frag}
end
end L2

set_option linter.all false
set_option Elab.async false
set_option maxRecDepth 100000
set_option maxHeartbeats 4000000
namespace L2
open PySem PySem.Spec PyProof.Rows
/-! ### a = b = e; names unpacked out of a list -/
section
variable {X : Cx} {K : PySem.W.Frag} {e t1 t2 : Expr} {es : List Expr} {te : TE} {pos p p2 : Pos}
end
end L2

set_option linter.all false
set_option Elab.async false
set_option maxRecDepth 100000
set_option maxHeartbeats 4000000
namespace L2
open PySem PySem.Spec PyProof.Rows
/-! ### xs.pop(i), abs -/
section
variable {X : Cx}
end
end L2

set_option linter.all false
set_option Elab.async false
set_option maxRecDepth 100000
set_option maxHeartbeats 4000000
namespace L2
open PySem PySem.Spec PyProof.Rows
section
variable {g : TG} {tt : TT} {te : TE} {σ0 : St} {H1 : Hp} {Q : Addr → Hp → Prop} {K : PySem.W.Frag}
end
end L2

set_option linter.all false
set_option Elab.async false
set_option maxRecDepth 100000
set_option maxHeartbeats 4000000
namespace L2
open PySem PySem.Spec PyProof.Rows
/-! ### xs.index(z) of a list of numbers -/
section
variable {X : Cx}
@[irreducible] def hIndex (a : Addr) (z : Int) (H : Hp) (Q : VK) : Prop := ∃ (ns : List Int) (j : Nat), H a = some (.lst (ns.map V.int)) ∧ ns[j]? = some z ∧ (∀ i, i < j → ns[i]? ≠ some z) ∧ Q (.int j) H
def vIndex : V → List V → Hp → VK → Prop := fun x vs H Q => match x, vs with
  | .ref a, [.int z] => hIndex a z H Q
  | _, _ => False
def isInt (z : Int) : Value → Bool
  | .int a _ => a == z
  | _ => false
theorem mtIndex : MtM X "list.index" vIndex := by
  intro pins s σ H x vs v us Q I rx rv h
  unfold vIndex at h
  split at h
  · rename_i a z
    unfold hIndex at h
    obtain ⟨ns, j, hH, hj, hno, q⟩ := h
    cases rx
    obtain ⟨u, rfl, ru⟩ := rv.one
    obtain ⟨t, rfl⟩ := ru
    obtain ⟨zl, its, n, r, hl, e⟩ := I.lstM hH
    rw [List.length_map] at hl zl
    have it : ∀ (i : Nat) (w : Value), its[i]? = some w → ∃ (y : Int) (tk : Tok), ns[i]? = some y ∧ w = .int y tk := fun i w hw => by
      have hi : i < its.length := (List.getElem?_eq_some_iff.mp hw).1
      have hi2 : i < ns.length := by omega
      have hx : (ns.map V.int)[i]? = some (.int ns[i]) := by rw [List.getElem?_map, List.getElem?_eq_getElem hi2]; rfl
      obtain ⟨w', hw', rw'⟩ := r.get hx
      rw [hw] at hw'
      cases hw'
      obtain ⟨tk, rfl⟩ := rw'
      exact ⟨ns[i], tk, List.getElem?_eq_getElem hi2, rfl⟩
    have hj2 : j < its.length := by have := (List.getElem?_eq_some_iff.mp hj).1; omega
    have sl : sizeLine < 2 ^ 62 := by rw [sizeLine_eq]; decide
    refine call_meets F.slot_list_index ⟨_, e, rfl⟩ F.entry_list_index (F.args_list_index_2 _ _)
      (MeetsSeq.list_index a its.toArray n (.int z t) (isInt z) (fun y hy => ?_) j (by simpa using hj2) (by omega) ?_ (fun m hm hmj => ?_)) ⟨e, ?_⟩
    · have hy' : y ∈ its := by simpa using hy
      obtain ⟨i, hi⟩ := List.mem_iff_getElem?.mp hy'
      obtain ⟨w, tk, _, rfl⟩ := it i y hi
      exact MeetsSeq.EqGives.int w z tk t
    · obtain ⟨w, tk, h1, h2⟩ := it j its[j] (List.getElem?_eq_getElem hj2)
      rw [hj] at h1
      cases h1
      show isInt z its[j] = true
      rw [h2]; simp [isInt]
    · have hm' : m < its.length := by simpa using hm
      obtain ⟨w, tk, h1, h2⟩ := it m its[m] (List.getElem?_eq_getElem hm')
      show isInt z its[m] = false
      rw [h2]
      have : w ≠ z := fun q => hno m hmj (q ▸ h1)
      simpa [isInt] using this
    · exact ⟨.int j, H, I.tok _, ⟨_, rfl⟩, q⟩
  · exact h.elim
end
end L2

set_option Elab.async false
set_option maxRecDepth 100000
set_option maxHeartbeats 4000000
namespace L2
open PySem PySem.Spec PyProof.Rows
/-! ### comprehensions over enumerate -/
section
variable {g : TG} {tt : TT} {te : TE} {σ0 : St} {H1 : Hp} {Q : Addr → Hp → Prop} {K : PySem.W.Frag}
end
end L2

set_option Elab.async false
set_option maxRecDepth 100000
set_option maxHeartbeats 4000000
namespace L2
open PySem PySem.Spec PyProof.Rows
def Ite1 (K : PySem.W.Frag) (a : Addr) : It :=
  ⟨fun i H => ∃ xs x, SqL K H a xs ∧ xs[i]? = some x,
   fun i H x H' => ∃ (T : Addr) (v : V), H T = none ∧ x = .ref T ∧ H' = upd H T (.tup [.int ((i + 1 : Nat) : Int), v]) ∧ ∀ xs, SqL K H a xs → xs[i]? = some v,
   fun i H => ∃ xs, SqL K H a xs ∧ xs.length ≤ i⟩
/-- a list's items, counted from one on -/
theorem draws1 {prog : Program} {w : World} {A : Around} (hh : A.handled = none) (it l : Addr) (hne : l ≠ it) (items : Array Value) :
    Draws prog w A it [it, l] (items.size + 1) (fun j v => 1 ≤ j ∧ items[j - 1]? = some v) (fun j h => 1 ≤ j ∧ h.IsListIter it l (j - 1) ∧ h.IsList l items) where
  live := fun j h st => (Draws.list (prog := prog) (w := w) hh it l hne items).live _ h st.2
  frame := fun j h h' st hk => ⟨st.1, (Draws.list (prog := prog) (w := w) hh it l hne items).frame _ h h' st.2 hk⟩
  item := fun j s Q E hj st hQ => (Draws.list hh it l hne items).item (j - 1) s Q E (by have := st.1; omega) st.2 fun x h' tk hP hst hs => hQ x h' tk ⟨st.1, hP⟩ ⟨by omega, by
    rw [show j + 1 - 1 = j - 1 + 1 by have := st.1; omega]; exact hst⟩ hs
  done := fun s Q E st hE => (Draws.list hh it l hne items).done s Q E st.2 hE
theorem drawsE {prog : Program} {w : World} {A : Around} (hh : A.handled = none) (it l : Addr) (i : Nat) (items : Array Value) (hi : items[i]? = none) :
    Draws prog w A it [it, l] 0 (fun _ _ => False) (fun _ h => h.IsListIter it l i ∧ h.IsList l items) where
  live := fun _ _ st => let ⟨o, ho, _⟩ := st.1; ⟨o, ho⟩
  frame := fun _ _ _ st hk => ⟨st.1.at fun o e => hk it (by simp) o e, st.2.at fun o e => hk l (by simp) o e⟩
  item := fun j s Q E hj _ _ => by omega
  done := fun s Q E st hE => wpAny_nextOf_list_end hh st.1 st.2 hi hE
theorem turn_enum1 {P : Program} {w : World} {K : PySem.W.Frag} {elts : List Expr} {x1 : Nat} {pos : Pos} (a e it : Addr) (hne : e ≠ it) :
    Turn P w K (.Tuple elts x1 pos) (Ite1 K a) [e, it] e (fun i h => (∃ old, IsEnum h e it ((i + 1 : Nat) : Int) old) ∧ h.IsListIter it a i) where
  mem := by simp
  obj := fun i h st b hb => by
    rcases List.mem_cons.mp hb with rfl | hb
    · obtain ⟨⟨old, q⟩, _⟩ := st
      exact ⟨_, q, fun v z => by
        have z' : Data.fields _ = Data.cell v := z
        cases z'⟩
    · have e' : b = it := by simpa using hb
      subst e'
      obtain ⟨_, o, q, c, d⟩ := st
      exact ⟨o, q, fun v z => by rw [d] at z; cases z⟩
  keep := fun i h h' st k => by
    obtain ⟨⟨old, q⟩, st⟩ := st
    exact ⟨⟨old, k e (by simp) _ q⟩, st.at fun o e => k it (by simp) o e⟩
  item := by
    intro X hP hw hK hc i pins s σ H E I hf st hg
    subst hP hw hK
    obtain ⟨⟨old, he⟩, hit⟩ := st
    obtain ⟨xs, x, hq, hx⟩ := hg
    obtain ⟨its, rv, p, hz⟩ := I.list hq
    obtain ⟨u, hu, ru⟩ := rv.get hx
    obtain ⟨f0, f1, f2, f3, f4, f5⟩ := hf e (by simp)
    obtain ⟨g0, g1, g2, g3, g4, g5⟩ := hf it (by simp)
    have nea : e ≠ a := fun z => by
      obtain ⟨o, ho, hc'⟩ := p.isList
      rw [← z, show s.heap.get? e = _ from he] at ho
      cases ho
      exact absurd (show Value.type "enumerate" = Value.type "list" from hc'.1) (by decide)
    have il := p.isList
    have hui : i < its.toArray.size := by
      have := (List.getElem?_eq_some_iff.mp hu).1
      simpa using this
    have nla : a ≠ it := fun z => by
      obtain ⟨o, ho, hc'⟩ := p.isList
      obtain ⟨o2, q2, c2, d2⟩ := id hit
      rw [z, q2] at ho
      cases ho
      rw [c2] at hc'
      exact absurd hc'.1 (by decide)
    refine wpAny_pyNext_enum_itemD (i := i + 1) (n := its.toArray.size + 1) (fp := [it, a]) (P := fun j v => 1 ≤ j ∧ its.toArray[j - 1]? = some v) (St := fun j h => 1 ≤ j ∧ h.IsListIter it a (j - 1) ∧ h.IsList a its.toArray) (draws1 (A := X.A.in1) (show X.A.in1.handled = none from I.ok.hd hc) it a nla its.toArray) he ⟨by omega, hit, il⟩ (by omega) hne (by simp [hne, nea]) fun x' h₁ tk hP heo hst₁ ht₁ hz₁ hk₁ => ?_
    have hx' : x' = u := by
      have := hP.2
      simp at this
      rw [this] at hu
      exact Option.some.inj hu
    subst hx'
    have hit₁ := hst₁.2.1
    refine ⟨_, rfl, wpAny_letOwnedTupleGo_enum heo fun h₂ he₂ hs₂ => ?_⟩
    replace hs₂ : Heap.SameBut e h₁ h₂ := hs₂
    have hel : e < s.heap.objs.size := Heap.lt_size he
    have hT : H s.heap.objs.size = none := I.hok.fresh (Nat.le_refl _)
    have ht₂ : h₂.get? s.heap.objs.size = some { cls := .type "tuple", data := .seq #[.int ((i + 1 : Nat) : Int) tk, x'] } := (hs₂.2 _ (Nat.ne_of_gt hel)).trans ht₁
    have kk : ∀ b o, b ≠ e → b ≠ it → s.heap.get? b = some o → h₂.get? b = some o := fun b o h1 h2 q => (hs₂.2 b h1).trans (hk₁ b o h1 h2 q)
    have nT : ∀ b o, s.heap.get? b = some o → b ≠ s.heap.objs.size := fun b o q => Nat.ne_of_lt (Heap.lt_size q)
    have nch : ∀ b, b ∉ [e, it] → b ≠ e ∧ b ≠ it := fun b hb => ⟨fun z => hb (by simp [z]), fun z => hb (by simp [z])⟩
    have nE : ∀ b o, H b = some o → b ≠ e ∧ b ≠ it := fun b o q => ⟨fun z => (by rw [z, f0] at q; cases q), fun z => (by rw [z, g0] at q; cases q)⟩
    have I1 : Inv X pins σ (upd H s.heap.objs.size (.tup [.int ((i + 1 : Nat) : Int), x])) { s with heap := h₂, gens := s.gens, drawn := s.drawn, toks := tk + 1 } := by
      refine I.step (ch := [e, it]) (fun b hb => ?_) (fun b o _ _ hc q _ => kk b o (nch b hc).1 (nch b hc).2 q) (fun b o _ _ hc q _ => ⟨o.slots, kk b o (nch b hc).1 (nch b hc).2 q⟩) (fun b o _ q n => by rw [upd_ne (nT b o q)]; exact n)
        (fun b o hc q => ⟨o, kk b o (nch b hc).1 (nch b hc).2 q⟩) (fun b ys q => by rw [upd_ne (ne_of_none q hT)]; exact q) (fun b o z q => by rw [upd_ne (ne_of_none q hT)]; exact q) (fun b ps q => ⟨#[], by rw [upd_ne (ne_of_none q hT), q]; simp⟩) (fun m hm => ?_) (fun b z q => ?_) I.bare
      · rcases List.mem_cons.mp hb with rfl | hb
        · exact ⟨f3, f1, f4, f5⟩
        · have e' : b = it := by simpa using hb
          subst e'
          exact ⟨g3, g1, g4, g5⟩
      · obtain ⟨o, es, ep, ho, r⟩ := hm
        exact ⟨o, es, ep, kk _ o (Ne.symm f1) (Ne.symm g1) ho, r⟩
      · by_cases hb : b = s.heap.objs.size
        · subst hb
          rw [upd_same] at q
          cases q
          exact ⟨(by show 2 ≤ sizeLine; rw [sizeLine_eq]; decide), [.int ((i + 1 : Nat) : Int) tk, x'], .cons ⟨_, rfl⟩ (.cons ru .nil), _, ht₂, rfl, 0, rfl⟩
        · rw [upd_ne hb] at q
          refine (I.hok b z q).stay (fun c v hc q' => ?_) (fun c q' => by rw [upd_ne (ne_of_none q' hT)]; exact q') fun c ys q' => by rw [upd_ne (ne_of_none q' hT)]; exact q'
          rcases hc with rfl | hc
          · exact kk c v (nE c z q).1 (nE c z q).2 q'
          · exact kk c v (nE c _ hc).1 (nE c _ hc).2 q'
    refine ⟨.ref s.heap.objs.size, _, I1, rfl, ⟨s.heap.objs.size, x, hT, rfl, rfl, fun ys hy => by rw [I.list_inj hy hq]; exact hx⟩, ⟨⟨x', ?_⟩, ?_⟩, fun b hb => ?_⟩
    · have : ((i + 1 + 1 : Nat) : Int) = ((i + 1 : Nat) : Int) + 1 := by push_cast; rfl
      rw [this]; exact he₂
    · exact hit₁.extBut hs₂.extBut (Ne.symm hne)
    · have hbl : b < s.heap.objs.size := by
        rcases List.mem_cons.mp hb with rfl | hb
        · exact hel
        · have e' : b = it := by simpa using hb
          subst e'
          obtain ⟨o, q, _⟩ := hit
          exact Heap.lt_size q
      rw [upd_ne (Nat.ne_of_lt hbl)]
      exact (hf b hb).1
  done := by
    intro X hP hw hK hc i pins s σ H E I hf st hg
    subst hP hw hK
    obtain ⟨⟨old, he⟩, hit⟩ := st
    obtain ⟨xs, hq, hx⟩ := hg
    obtain ⟨its, rv, p, hz⟩ := I.list hq
    obtain ⟨g0, g1, g2, g3, g4, g5⟩ := hf it (by simp)
    have hl := rv.length
    exact wpAny_pyNext_enum_endD (drawsE (A := X.A.in1) (show X.A.in1.handled = none from I.ok.hd hc) it a i its.toArray (by simp; omega)) he ⟨hit, p.isList⟩ fun h' eb => ⟨rfl, I.turned (t' := s.toks) (fun b o hb e => eb b o hb e) g0 g1 g3 g4 g5⟩
  self := fun A i s Q E st h => by
    obtain ⟨⟨old, he⟩, _⟩ := st
    exact wpAny_pyIter_enum he h
end L2

set_option Elab.async false
set_option maxRecDepth 100000
set_option maxHeartbeats 4000000
namespace L2
open PySem PySem.Spec PyProof.Rows
open AutoSeq1 (wpAny_loadPart')
theorem meets_enum1 (a : Addr) (its : Array Value) (k : Nat) (dc : Option Addr) (ss : Array (Option Value)) (t : Tok) :
    Meets (Builtin.«enumerate.__new__» ⟨[.type "enumerate", .ref a], [("start", .int 1 t)]⟩) (fun _ R u => u.heap.get? a = some ⟨.type "list", dc, .seq its k, ss⟩ ∧
      ∀ h' tk, IsEnum h' (u.heap.objs.size + 1) u.heap.objs.size 1 .none → h'.IsListIter u.heap.objs.size a 0 → h'.objs.size = u.heap.objs.size + 2 → (∀ b o, u.heap.get? b = some o → h'.get? b = some o) →
        R (.ok (.ret (.ref (u.heap.objs.size + 1)))) { u with heap := h', toks := tk }) :=
  .of_wp fun prog w A R u q => by
    obtain ⟨hp, gg, dd, tk, os⟩ := u
    obtain ⟨ha, q⟩ := q
    have sub := sub_enumerate
    have hL : Heap.IsList (Shared.heap ⟨hp, gg, dd, tk, os⟩) a its := ⟨_, ha, rfl, k, rfl⟩
    wp_walk using wpAny_loadPart' ha
    obtain ⟨io, hio⟩ : ∃ o : Obj, o = ⟨.type "list_iterator", none, .fields #[.ref a, .int 0 0], #[]⟩ := ⟨_, rfl⟩
    obtain ⟨eo, heo⟩ : ∃ o : Obj, o = ⟨.type "enumerate", none, .fields #[.none, .bool false, .ref hp.objs.size, rawInt 1, .none, .none], #[]⟩ := ⟨_, rfl⟩
    have z : (hp.push io).objs.size = hp.objs.size + 1 := size_push' ..
    have fin := q ((hp.push io).push eo) tk (by
      show _ = _
      rw [show (Shared.heap ⟨hp, gg, dd, tk, os⟩).objs.size + 1 = (hp.push io).objs.size from z.symm, Heap.get?_push_size _ (by rw [heo]; rfl), heo]) ⟨io, (Heap.get?_push_ne _ _ _ (by rw [z]; exact Nat.ne_of_lt (Nat.lt_succ_self _))).trans (Heap.get?_push_size _ (by rw [hio]; rfl)), by rw [hio], by rw [hio]; rfl⟩ (by rw [size_push', z]) fun b o e => Heap.get?_push_of_some _ (Heap.get?_push_of_some _ e)
    have fin' : R (.ok (.ret (.ref (hp.push io).objs.size))) ⟨(hp.push io).push eo, gg, dd, tk, os⟩ := by rw [z]; exact fin
    subst hio heo
    refine wpAny_stack_any fun st => ?_
    refine wpAny_pure ?_
    split
    · rename_i cc _ _ _ _ _
      cases (cc == Value.type "enumerate")
      · wp_walk using wpAny_pyIter_list hL, wpAny_loadPart' ha
        exact ⟨_, rfl, fin'⟩
      · wp_walk using wpAny_pyIter_list hL, wpAny_loadPart' ha
        exact ⟨_, rfl, fin'⟩
    · wp_walk using wpAny_pyIter_list hL, wpAny_loadPart' ha
      exact ⟨_, rfl, fin'⟩
end L2

set_option Elab.async false
set_option maxRecDepth 100000
set_option maxHeartbeats 4000000
namespace L2
open PySem PySem.Spec PyProof.Rows
theorem typeCall_en1 (a b : Value) : checkTypeCall "enumerate" ⟨[a], [("start", b)]⟩ = pure () := by kernel_rfl
theorem newCall_en1 (a b : Value) : checkBuiltinCall "enumerate.__new__" ⟨[.type "enumerate", a], [("start", b)]⟩ = pure () := by kernel_rfl
theorem initOk_en1 (o a b : Value) : argsOk "object.__init__" ⟨[o, a], [("start", b)]⟩ := by unfold argsOk; kernel_rfl
section
variable {prog : Program} {w : World} {A : Around} {E : Value → Shared → Prop} {s : Shared}
theorem init_en1 {self a b : Value} : Meets (Builtin.«object.__init__» ⟨[self, a], [("start", b)]⟩) (fun _ R u => u.TypeIs self "enumerate" ∧ R (.ok (.ret .none)) u) := by
  have hl := F.called_enumerate.init.lookup
  have hm := F.called_enumerate.made
  refine Meets.of_wp fun prog w A R u hu => ?_
  obtain ⟨hT, hq⟩ := hu
  repeat (any_goals (first | assumption | wp_step))
  exact ⟨Value.none, rfl, hq⟩
theorem call_enum1 {l : Addr} {its : Array Value} {t : Tok} {Q : Value → Shared → Prop} (hL : s.heap.IsList l its)
    (h : ∀ h' tk, IsEnum h' (s.heap.objs.size + 1) s.heap.objs.size 1 .none → h'.IsListIter s.heap.objs.size l 0 → h'.objs.size = s.heap.objs.size + 2 → (∀ b o, s.heap.get? b = some o → h'.get? b = some o) → Q (.ref (s.heap.objs.size + 1)) { s with heap := h', toks := tk }) :
    wpAny (model prog w) A (call (.type "enumerate") [.ref l] [("start", .int 1 t)]) Q E s := by
  obtain ⟨⟨c, dct, dt, sl⟩, hl, hc, n, hd⟩ := hL
  obtain rfl : c = .type "list" := hc
  obtain rfl : dt = .seq its n := hd
  have ft := F.called_enumerate
  obtain ⟨c, tl, hmro⟩ := ft.mro
  have hmade := ft.made
  have hsub := ft.sub
  refine wpAny_call (codeAny_of_tree ?_); show wpAny _ _ (callAny (.type "enumerate") _) _ _ _
  refine wpAny_pure ⟨Code.quiet_builtin _ (by decide +kernel), codeAny_builtin F.entry_type_call ?_⟩; rw [Around.under_plain (weight_type_call_type "enumerate" _ _) (units_type_call_type "enumerate" _ _)]
  have h1 := ft.notType
  have h2 := ft.canCreate
  have hct := typeCall_en1 (.ref l) (.int 1 t)
  repeat (any_goals (first | assumption | wp_step))
  have g := meets_enum1 l its n dct sl t prog w A.in1 (wants (fun obj s₁ => s₁.TypeIs obj "enumerate" ∧ Q obj s₁) E) s ⟨hl, fun h' tk he hit hz hk => ⟨⟨_, he, rfl⟩, h h' tk he hit hz hk⟩⟩
  refine codeAny_mono (codeAny_call_builtin ft.plain F.entry_enumerate_new (wpAny_of_eq (newCall_en1 _ _) g)) fun r s₁ hr => ?_
  match r, hr with
  | .error e, hr => exact hr
  | .ok (.ret obj), hr =>
    obtain ⟨hT, hq⟩ := hr
    have hli := ft.init.lookup
    have hbi := ft.init.bind obj
    repeat (any_goals (first | assumption | wp_step))
    refine codeAny_mono (codeAny_call_builtin ft.init.plain F.entry_object_init (ft.init.check _ _ _ _ _ _ _ _ hT (initOk_en1 obj (.ref l) (.int 1 t)) (init_en1 prog w A.in1 (wants (fun r s₂ => r = .none ∧ Q obj s₂) E) s₁ ⟨hT, rfl, hq⟩))) fun r₂ s₂ hr₂ => ?_
    match r₂, hr₂ with
    | .error e, hr₂ => exact hr₂
    | .ok (.ret v), hr₂ =>
      obtain ⟨rfl, hq⟩ := hr₂
      repeat (any_goals (first | assumption | wp_step))
end
end L2

set_option Elab.async false
set_option maxRecDepth 100000
set_option maxHeartbeats 4000000
namespace L2
open PySem PySem.Spec PyProof.Rows PySem.W
section
variable {X : Cx}
def iEnum1 (K : PySem.W.Frag) (ta tk : TA) : TI := fun σ H R => ta σ H fun vs H1 => tk σ H1 fun ws H2 => ∃ a, vs = [.ref a] ∧ ws = [.int 1] ∧ (∃ xs, SqL K H2 a xs) ∧ R (Ite1 K a) H2
theorem pi_enum1 {elts : List Expr} {x1 : Nat} {tpos : Pos} {l e : Expr} {ta tk : TA} {p pos kpos : Pos} (hg : Gl X "enumerate") (hm : X.mg "enumerate" = none) (ha : PA X [l] ta) (hkw : PK X [⟨some "start", e, kpos⟩] tk) (hs : starEach [l] X.env = (false, eval l X.env) :: starEach [] X.env := by rfl) :
    PI X (.Tuple elts x1 tpos) (.Call (.Name "enumerate" p) [l] [⟨some "start", e, kpos⟩] pos) (iEnum1 X.K ta tk) := by
  intro pins s σ H R I h
  refine wpAny_Call_Name_kw (ld_blt I hg hm boot_enum ?_)
  refine PySem.W.callWith_of (P := fun _ => True) (by rw [hs]; rfl) (fun hh _ => ⟨Keeper.machine, .inr (.inl rfl), Looks.of_pure rfl⟩) (evalArgs_kw2 rfl (thn (ha pos pins s σ H _ I h) fun us s1 ⟨vs, H1, I1, r1, q1⟩ => ?_) hs)
  refine thn (hkw pos pins s1 σ H1 _ I1 q1) fun ws s2 ⟨zs, H2, I2, rz, q2⟩ => ⟨trivial, ?_⟩
  obtain ⟨a, rfl, rfl, ⟨xs, hxs⟩, q⟩ := q2
  obtain ⟨u, rfl, ru⟩ := vals1 r1
  cases ru
  obtain ⟨u, rfl, ru⟩ := vals1 rz
  obtain ⟨t, rfl⟩ := ru
  obtain ⟨its, rv, pl, hz⟩ := I2.list hxs
  refine call_enum1 (t := t) pl.isList fun h' tk' he hit hsz hk => ?_
  have I3 : Inv X pins σ H2 { s2 with heap := h', toks := tk' } := I2.kept (t' := tk') hk
  refine wpAny_pyIter_enum he ⟨s2.heap.objs.size + 1, [s2.heap.objs.size + 1, s2.heap.objs.size], _, Ite1 X.K a, H2, rfl, I3, turn_enum1 a _ _ (Nat.ne_of_gt (Nat.lt_succ_self _)), ⟨⟨_, he⟩, hit⟩, fun b hb => ?_, q⟩
  rcases List.mem_cons.mp hb with rfl | hb
  · exact I2.fpOk (Nat.le_succ _) (I2.hok.fresh (Nat.le_succ _))
  · have e' : b = s2.heap.objs.size := by simpa using hb
    subst e'
    exact I2.fpOk (Nat.le_refl _) (I2.hok.fresh (Nat.le_refl _))
end
section
variable {g : TG} {tt : TT} {te : TE} {σ0 : St} {H1 : Hp} {Q : Addr → Hp → Prop} {K : PySem.W.Frag}
theorem comp_en1 {a : Addr} (xs : List V) (R : Nat → Addr → St → Hp → List V → Prop)
    (h0 : ∀ D H', H1 D = none → Same H1 H' → H' D = some (.lst []) → R 0 D σ0 H' [])
    (hl : ∀ i D σ H zs, H1 D = none → R i D σ H zs → SqL K H a xs)
    (hs : ∀ i x T D σ H H' zs, xs[i]? = some x → H1 D = none → R i D σ H zs → H D = some (.lst zs) → H T = none → Same H H' → H' T = some (.tup [.int ((i + 1 : Nat) : Int), x]) → Turn1 g tt te D zs (.ref T) σ H' (R (i + 1) D))
    (hd : ∀ D σ H zs, H1 D = none → R xs.length D σ H zs → H D = some (.lst zs) → Q D H) : ∀ D, H1 D = none → compRead (Ite1 K a) D (upG g) (upT tt) (upE te) σ0 (upd H1 D (.lst [])) fun H2 => Q D H2 := by
  intro D hD
  refine ⟨fun i m σ H => m = xs.length - i ∧ i ≤ xs.length ∧ ∃ zs, H D = some (.lst zs) ∧ R i D σ H zs, ⟨xs.length, by simp, Nat.zero_le _, [], upd_same, h0 D _ hD (same_upd hD) upd_same⟩, ?_⟩
  rintro i m σ H ⟨rfl, hi, zs, e, r⟩
  have q1 := hl i D σ H zs hD r
  by_cases hlt : i < xs.length
  · refine .inr ⟨⟨xs, xs[i], q1, by simp [hlt]⟩, fun σ H => ∃ zs, H D = some (.lst zs) ∧ R (i + 1) D σ H zs, fun σ' H' p' => ⟨xs.length - (i + 1), by omega, rfl, hlt, p'⟩, fun x H' y => ?_⟩
    obtain ⟨T, v, hT, rfl, rfl, y1⟩ := y
    exact turn1_ok (hs i v T D σ H _ zs (y1 xs q1) hD r e hT (same_upd hT) upd_same) fun σ H zs e r => ⟨zs, e, r⟩
  · have ei : i = xs.length := by omega
    subst ei
    exact .inl ⟨⟨xs, q1, Nat.le_refl _⟩, hd D σ H zs hD r e⟩
end
def mEnum1 (K : PySem.W.Frag) (ta : TA) : TI := fun σ H R => ta σ H fun vs H1 => match vs with
  | [.ref a] => (∃ xs, SqL K H1 a xs) ∧ R (Ite1 K a) H1
  | _ => False
section
variable {X : Cx} {K : PySem.W.Frag} {a e : Expr} {t : TA} {es : List Expr} {p p2 p4 pos : Pos}
theorem pi_kw1 {k : Nat} (hg : Gl X "enumerate") (hm : X.mg "enumerate" = none) (ha : PA X [a] t) (he : PE X e (tC (.int 1))) (hp : plainE a = true) :
    PI X (.Tuple es k p2) (.Call (.Name "enumerate" p) [a] [⟨some "start", e, p4⟩] pos) (mEnum1 X.K t) :=
  (pi_enum1 (elts := es) (x1 := k) (tpos := p2) (p := p) (pos := pos) (kpos := p4) hg hm ha.up (pk_cons he pk_nil) (star_plain hp)).imp fun σ H R h => ⟨_, h, fun vs H1 q => by
    split at q
    · exact ⟨_, rfl, rfl, q.1, q.2⟩
    · exact q.elim⟩
theorem ki_enum1 {k : Nat} (hK : X.K = K) (hg : Gl X "enumerate") (hm : X.mg "enumerate" = none) (h : QA X [a] t) (he : QE X e (tC (.int 1))) : QI X (.Tuple es k p2) (.Call (.Name "enumerate" p) [a] [⟨some "start", e, p4⟩] pos) (mEnum1 K t) :=
  hK ▸ ⟨pi_kw1 hg hm h.h he.h (by have := h.p; simpa using this)⟩
end
end L2

set_option linter.all false
set_option Elab.async false
set_option maxRecDepth 100000
set_option maxHeartbeats 4000000
namespace L2
open PySem PySem.Spec PyProof.Rows PySem.SeqAt PySem.MeetsSeq3
open PySem.AutoSeq1 (wpAny_loadPart')
/-! ### x < y of lists and tuples whose items may be lists -/
def LessAt (A : Around) (s : Shared) (x y : Value) (r : Bool) : Prop :=
  ∀ (p : Program) (w : World) (E Q : Value → Shared → Prop), Q (.bool r) s → wpAny (model p w) A (richCompare .Lt x y) Q E s
/-- how two rows of values compare, item by item -/
inductive Lesser (A : Around) (s : Shared) : List Value → List Value → Bool → Prop where
  | both : Lesser A s [] [] false
  | short {y : Value} {ys : List Value} : Lesser A s [] (y :: ys) true
  | long {x : Value} {xs : List Value} : Lesser A s (x :: xs) [] false
  | on {x y : Value} {xs ys : List Value} {r : Bool} (h : EqAt A s x y true) (t : Lesser A s xs ys r) : Lesser A s (x :: xs) (y :: ys) r
  | off {x y : Value} {xs ys : List Value} {r : Bool} (h : EqAt A s x y false) (t : LessAt A s x y r) : Lesser A s (x :: xs) (y :: ys) r
def SObj (h : Heap) (c : String) (a : Addr) (d : Option Addr) (vs : Array Value) (n : Nat) (sl : Array (Option Value)) : Prop := h.get? a = some { cls := .type c, dict := d, data := .seq vs n, slots := sl }
theorem less_loop {a b : Addr} {vs us : Array Value} {n m : Nat} {da db : Option Addr} {sa sb : Array (Option Value)} {r : Bool} : ∀ (k i : Nat), vs.size - i = k →
    Meets (Builtin.«list.__eq__.loop» ⟨[.ref a, .ref b, rawInt i, rawInt 0], []⟩) fun A R s => SObj s.heap "list" a da vs n sa ∧ SObj s.heap "list" b db us m sb ∧
      Lesser A.in1 s (vs.toList.drop i) (us.toList.drop i) r ∧ i ≤ vs.size ∧ i ≤ us.size ∧ R (.ok (.ret (.bool r))) s
  | 0, i, hk => by
    intro prog w A R s ⟨ha, hb, hl, hi1, hi2, q⟩
    obtain ⟨hp, gl, dr, tk, os⟩ := s
    unfold SObj at ha hb
    have d1 : vs.toList.drop i = [] := List.drop_eq_nil_of_le (by simp; omega)
    rw [d1] at hl
    wp_walk using wpAny_loadPart' ha, wpAny_loadPart' hb
    have v1 : vs[((i : Nat) : Int).toNat]? = none := by simp; omega
    rw [v1]
    wp_walk using wpAny_loadPart' ha, wpAny_loadPart' hb
    show R (.ok (.ret (.bool (decide (vs.size < us.size))))) _
    have z : decide (vs.size < us.size) = r := by
      generalize hd : us.toList.drop i = us' at hl
      cases hl with
      | both =>
        have := congrArg List.length hd
        simp at this
        exact decide_eq_false (by omega)
      | short =>
        have := congrArg List.length hd
        simp at this
        exact decide_eq_true (by omega)
    rw [z]; exact q
  | k + 1, i, hk => by
    intro prog w A R s ⟨ha, hb, hl, hi1, hi2, q⟩
    obtain ⟨hp, gl, dr, tk, os⟩ := s
    unfold SObj at ha hb
    have i1 : i < vs.size := by omega
    have d1 : vs.toList.drop i = vs[i] :: vs.toList.drop (i + 1) := by rw [List.drop_eq_getElem_cons (by simpa using i1)]; simp
    rw [d1] at hl
    wp_walk using wpAny_loadPart' ha, wpAny_loadPart' hb
    have v1 : vs[((i : Nat) : Int).toNat]? = some vs[i] := by rw [Int.toNat_natCast]; exact Array.getElem?_eq_getElem i1
    rw [v1]
    by_cases i2 : i < us.size
    · have d2 : us.toList.drop i = us[i] :: us.toList.drop (i + 1) := by rw [List.drop_eq_getElem_cons (by simpa using i2)]; simp
      rw [d2] at hl
      have v2 : us[((i : Nat) : Int).toNat]? = some us[i] := by rw [Int.toNat_natCast]; exact Array.getElem?_eq_getElem i2
      rw [v2]
      cases hl with
      | on he ht =>
        refine wpAny_bind (he prog w _ _ ?_)
        wp_walk
        rw [show ((i : Int) + 1) = ((i + 1 : Nat) : Int) by omega]
        refine ⟨plainId_quiet plain_eq_loop _, codeAny_builtin entry_eq_loop ?_⟩
        rw [Around.under_plainId plain_eq_loop _]
        exact less_loop k (i + 1) (by omega) prog w A R _ ⟨ha, hb, ht, by omega, by omega, q⟩
      | off he ht =>
        refine wpAny_bind (he prog w _ _ ?_)
        wp_walk using wpAny_loadPart' ha, wpAny_loadPart' hb
        rw [v1, v2]
        refine wpAny_bind (ht prog w _ _ ?_)
        wp_walk
        exact q
    · have d2 : us.toList.drop i = [] := List.drop_eq_nil_of_le (by simp; omega)
      rw [d2] at hl
      cases hl with
      | long =>
        have v2 : us[((i : Nat) : Int).toNat]? = none := by simp; omega
        rw [v2]
        wp_walk using wpAny_loadPart' ha, wpAny_loadPart' hb
        have z : decide (vs.size < us.size) = false := decide_eq_false (by omega)
        show R (.ok (.ret (.bool (decide (vs.size < us.size))))) _
        rw [z]; exact q
theorem list_less {a b : Addr} {vs us : Array Value} {n m : Nat} {da db : Option Addr} {sa sb : Array (Option Value)} {r : Bool} :
    Meets (Builtin.«list.__lt__» ⟨[.ref a, .ref b], []⟩) fun A R s => SObj s.heap "list" a da vs n sa ∧ SObj s.heap "list" b db us m sb ∧ Lesser A.in1 s vs.toList us.toList r ∧ R (.ok (.ret (.bool r))) s := by
  intro prog w A R s ⟨ha, hb, hl, q⟩
  obtain ⟨hp, gl, dr, tk, os⟩ := s
  unfold SObj at ha hb
  have sub := AutoSeq1.sub_list_list
  wp_walk using wpAny_loadPart' ha, wpAny_loadPart' hb
  refine ⟨plainId_quiet plain_eq_loop _, codeAny_builtin entry_eq_loop ?_⟩
  rw [Around.under_plainId plain_eq_loop _]
  exact less_loop vs.size 0 rfl prog w A R _ ⟨ha, hb, by simpa using hl, by omega, by omega, q⟩
theorem tuple_less {a b : Addr} {vs us : Array Value} {n m : Nat} {da db : Option Addr} {sa sb : Array (Option Value)} {r : Bool} :
    Meets (Builtin.«tuple.__lt__» ⟨[.ref a, .ref b], []⟩) fun A R s => SObj s.heap "tuple" a da vs n sa ∧ SObj s.heap "tuple" b db us m sb ∧ Lesser A.in1 s vs.toList us.toList r ∧ R (.ok (.ret (.bool r))) s := by
  refine .of_wp fun prog w A R s h => ?_
  obtain ⟨hp, gl, dr, tk, os⟩ := s
  obtain ⟨ha, hb, hl, q⟩ := h
  unfold SObj at ha hb
  have sub := AutoSeq1.sub_tuple_tuple
  have key : ∀ {xs ys : List Value}, Lesser A.in1 ⟨hp, gl, dr, tk, os⟩ xs ys r → xs.zip ys = [] → r = decide (xs.length < ys.length) := by
    intro xs ys h z
    cases h with
    | both => rfl
    | short => rfl
    | long => rfl
    | on => cases z
    | off => cases z
  wp_walk using wpAny_loadPart' ha, wpAny_loadPart' hb, wpAny_forIn_list _ (fun rest c s' => c.1 = none ∧ s' = ⟨hp, gl, dr, tk, os⟩ ∧ ∃ xs ys : List Value, rest = xs.zip ys ∧ xs.length + us.size = ys.length + vs.size ∧ Lesser A.in1 ⟨hp, gl, dr, tk, os⟩ xs ys r) _
  case turn =>
    rintro ⟨x, y⟩ rest c s' ⟨hc, rfl, xs, ys, hz, hlen, hl⟩
    cases hl with
    | both => cases hz
    | short => cases hz
    | long => cases hz
    | on he ht =>
      rw [List.zip_cons_cons] at hz
      cases hz
      refine wpAny_bind (he prog w _ _ ?_)
      wp_walk
      exact ⟨rfl, rfl, _, _, rfl, by simp only [List.length_cons] at hlen; omega, ht⟩
    | off he ht =>
      rw [List.zip_cons_cons] at hz
      cases hz
      refine wpAny_bind (he prog w _ _ ?_)
      have ht' := ht prog w
      wp_walk using ht'
      exact ⟨_, rfl, q⟩
  case fin =>
    rintro ⟨c1, c2⟩ s' ⟨hc, rfl, xs, ys, hz, hlen, hl⟩
    simp only at hc
    subst hc
    have e := key hl hz.symm
    have e2 : decide (xs.length < ys.length) = decide (vs.size < us.size) := decide_eq_decide.mpr (by omega)
    rw [e, e2] at q
    wp_walk
    exact ⟨_, rfl, by simpa [Builtin.Tuple.tupleCompareSizes] using q⟩
  case h =>
    exact ⟨rfl, rfl, vs.toList, us.toList, rfl, by simp; omega, hl⟩
theorem less_lists {A : Around} {s : Shared} {a b : Addr} {vs us : Array Value} {r : Bool} (ha : s.heap.IsList a vs) (hb : s.heap.IsList b us) (hu : A.units < cLine) (h : Lesser A.in1 s vs.toList us.toList r) : LessAt A s (.ref a) (.ref b) r := fun p w E Q q => by
  obtain ⟨⟨c1, d1, x1, l1⟩, o1, hc1, n1, hd1⟩ := id ha
  obtain ⟨⟨c2, d2, x2, l2⟩, o2, hc2, n2, hd2⟩ := id hb
  cases hc1; cases hd1; cases hc2; cases hd2
  exact richCompare_meets_room (op := .Lt) ⟨_, o1, rfl⟩ ⟨_, o2, rfl⟩ F.slot_list_lt F.entry_list_lt (F.args_list_lt_2 _ _) list_less ⟨o1, o2, h, show Value.bool _ ≠ Value.notImplemented ∧ Q _ s from ⟨(fun x => nomatch x), q⟩⟩ hu
theorem less_tuples {A : Around} {s : Shared} {a b : Addr} {vs us : Array Value} {r : Bool} (ha : s.heap.IsTuple a vs) (hb : s.heap.IsTuple b us) (hu : A.units < cLine) (h : Lesser A.in1 s vs.toList us.toList r) : LessAt A s (.ref a) (.ref b) r := fun p w E Q q => by
  obtain ⟨⟨c1, d1, x1, l1⟩, o1, hc1, n1, hd1⟩ := id ha
  obtain ⟨⟨c2, d2, x2, l2⟩, o2, hc2, n2, hd2⟩ := id hb
  cases hc1; cases hd1; cases hc2; cases hd2
  exact richCompare_meets_room (op := .Lt) ⟨_, o1, rfl⟩ ⟨_, o2, rfl⟩ PySem.F.slot_tuple_lt PySem.F.entry_tuple_lt (PySem.F.args_tuple_lt_2 _ _) tuple_less ⟨o1, o2, h, show Value.bool _ ≠ Value.notImplemented ∧ Q _ s from ⟨(fun x => nomatch x), q⟩⟩ hu
end L2

set_option linter.all false
set_option Elab.async false
set_option maxRecDepth 100000
set_option maxHeartbeats 4000000
namespace L2
open PySem PySem.Spec PyProof.Rows PySem.SeqAt
/-! ### min of a list of things that are compared by what the heap holds -/
section
variable {p : Program} {w : World} {A : Around} {s0 : Shared}
def KeptBy (h h' : Heap) : Prop := ∀ b o, h.get? b = some o → h'.get? b = some o
/-- one thing is less than the other, in every later heap -/
def LessBy (A : Around) (s : Shared) (us : List Value) (lt : Nat → Nat → Bool) : Prop :=
  ∀ i j (x y : Value), i ≠ j → us[i]? = some x → us[j]? = some y → ∀ (h : Heap) (t : Nat), KeptBy s.heap h → LessAt A { s with heap := h, toks := t } x y (lt i j)
def firstLow (lt : Nat → Nat → Bool) : Nat → Nat
  | 0 => 0
  | k + 1 => if lt (k + 1) (firstLow lt k) then k + 1 else firstLow lt k
theorem firstLow_le (lt : Nat → Nat → Bool) : ∀ k, firstLow lt k ≤ k
  | 0 => Nat.le_refl _
  | k + 1 => by unfold firstLow; have := firstLow_le lt k; split <;> omega
def PairObj (x : Value) (c : Nat) : Obj := { cls := .type "list", dict := none, data := .seq #[x, x] c, slots := #[] }
theorem low_loop {I S l : Addr} {us : List Value} {lt : Nat → Nat → Bool} {R : Result → Shared → Prop} (hh : A.handled = none) (hl : s0.heap.IsList l us.toArray) (hI : s0.heap.get? I = none) (hS : s0.heap.get? S = none) (hSI : S ≠ I) (hlt : LessBy A.in1 s0 us lt)
    (hR : ∀ v h t, us[firstLow lt (us.length - 1)]? = some v → KeptBy s0.heap h → R (.ok (.ret v)) { s0 with heap := h, toks := t }) :
    ∀ (k j : Nat) (h : Heap) (t : Nat) (x : Value) (c : Nat), us.length - (j + 1) = k → j + 1 ≤ us.length → KeptBy s0.heap h → h.IsListIter I l (j + 1) → h.get? S = some (PairObj x c) → us[firstLow lt j]? = some x →
      codeAny (model p w) A (.builtin "min.loop" ⟨[.ref I, .none, .ref S], []⟩) R { s0 with heap := h, toks := t } := by
  have nm : (toString "min" ++ toString ".loop" : String) = "min.loop" := by decide
  have nlI : l ≠ I := fun e => by obtain ⟨o, q, _⟩ := hl; rw [e, hI] at q; cases q
  have W := Walks.list (prog := p) (w := w) (A := A.in1) hh I l nlI us.toArray
  have z : us.toArray.size = us.length := List.size_toArray ..
  have old : ∀ {h h' : Heap}, KeptBy s0.heap h → (∀ b o, b ∉ [I] → h.get? b = some o → h'.get? b = some o) → KeptBy s0.heap h' := fun k1 k2 b o e => k2 b o (fun hm => by
    have : b = I := by simpa using hm
    rw [this, hI] at e; cases e) (k1 b o e)
  have oldS : ∀ {h : Heap} {f : Obj → Obj}, KeptBy s0.heap h → KeptBy s0.heap (h.update S f) := fun k1 b o e => (Heap.get?_update_other _ _ (fun q => by rw [← q, hS] at e; cases e)).trans (k1 b o e)
  have isl : ∀ {h : Heap}, KeptBy s0.heap h → h.IsList l us.toArray := fun k1 => hl.at fun o e => k1 l o e
  intro k
  induction k with
  | zero =>
    intro j h t x c hk hj kb it eS ex
    have jn : j + 1 = us.length := by omega
    refine codeAny_builtin PySem.F.entry_min_loop ?_
    rw [Around.under_plainId PySem.F.plain_min_loop _]
    refine wpAny_bind (wpAny_seqItems eS rfl ?_)
    refine wpAny_bind (wpAny_tryCatch (W.done _ _ _ ⟨by rw [z, ← jn]; exact it, isl kb⟩ fun h' tk hk' => ?_))
    have eS' := hk' S _ (by simpa using hSI) eS
    refine wpAny_bind ?_
    refine wpAny_updateSeq eS' rfl (wpAny_bind (wpAny_letGo (wpAny_pure ?_)))
    exact hR x _ tk (by rw [← jn]; exact ex) (oldS (old kb hk'))
  | succ k ih =>
    intro j h t x c hk hj kb it eS ex
    have jn : j + 1 < us.length := by omega
    refine codeAny_builtin PySem.F.entry_min_loop ?_
    rw [Around.under_plainId PySem.F.plain_min_loop _]
    refine wpAny_bind (wpAny_seqItems eS rfl ?_)
    refine wpAny_bind (wpAny_tryCatch (W.item (j + 1) _ _ _ (by rw [z]; exact jn) ⟨it, isl kb⟩ fun v h' tk ev st hk' => ?_))
    have eS' := hk' S _ (by simpa using hSI) eS
    have kb' := old kb hk'
    have ev' : us[j + 1]? = some v := by simpa using ev
    have fl := firstLow_le lt j
    show wpAny (model p w) A.in1 (tryCatch (holding [v, v] (richCompare .Lt v x >>= _)) _ >>= _) _ _ _
    refine wpAny_bind (wpAny_tryCatch (wpAny_holding (wpAny_bind (hlt (j + 1) (firstLow lt j) v x (by omega) ev' ex h' tk kb' p w _ _ ?_))))
    refine wpAny_bind (wpAny_holding (wpAny_truthy_bool ?_))
    refine wpAny_bind (wpAny_letGo (wpAny_pure ?_))
    cases hb : lt (j + 1) (firstLow lt j) with
    | true =>
      simp only [if_true]
      refine wpAny_bind ?_
      refine wpAny_updateSeq eS' rfl (wpAny_bind (wpAny_letGo ?_))
      rw [nm]
      refine wpAny_pure ⟨plainId_quiet PySem.F.plain_min_loop _, ih (j + 1) _ tk v _ (by omega) (by omega) (oldS kb') (st.1.at fun o e => (Heap.get?_update_other _ _ hSI).trans e) (Heap.get?_update_self _ eS' rfl) (by simp only [firstLow, hb, if_true]; exact ev')⟩
    | false =>
      simp only [Bool.false_eq_true, if_false]
      refine wpAny_bind (wpAny_letGo ?_)
      rw [nm]
      exact wpAny_pure ⟨plainId_quiet PySem.F.plain_min_loop _, ih (j + 1) _ tk x c (by omega) (by omega) kb' st.1 eS' (by simp only [firstLow, hb, Bool.false_eq_true, if_false]; exact ex)⟩
theorem low_call {l : Addr} {us : List Value} {lt : Nat → Nat → Bool} {Q E : Value → Shared → Prop} (hh : A.handled = none) (hl : s0.heap.IsList l us.toArray) (hne : 0 < us.length) (hlt : LessBy A.in1 s0 us lt)
    (hQ : ∀ v h t, us[firstLow lt (us.length - 1)]? = some v → KeptBy s0.heap h → Q v { s0 with heap := h, toks := t }) : wpAny (model p w) A (call (.builtin "min") [.ref l]) Q E s0 := by
  have nm : (toString "min" ++ toString ".loop" : String) = "min.loop" := by decide
  refine call_function_tree PySem.F.kind_min PySem.F.plain_min PySem.F.entry_min (PySem.F.args_min1 _) ?_
  refine wpAny_bind (wpAny_of_eq (show Builtin.Builtins.bindParams "min" ["key", "default"] 0 ⟨[], []⟩ = pure [none, none] from rfl) ?_)
  refine wpAny_bind (wpAny_pure ?_)
  refine wpAny_bind (wpAny_pyIter_list hl ?_)
  refine wpAny_bind (wpAny_newObj_type ?_)
  rw [nm]
  refine wpAny_pure ⟨plainId_quiet PySem.F.plain_min_loop _, ?_⟩
  have hlt0 : l < s0.heap.objs.size := by obtain ⟨_, e, _⟩ := hl; exact Heap.lt_size e
  generalize hob : ({ cls := .type "list_iterator", data := .fields #[.ref l, .int 0 0] } : Obj) = ob
  have fI : (s0.heap.push ob).get? s0.heap.objs.size = some ob := by subst hob; exact Heap.get?_push_size _ rfl
  have nI : s0.heap.get? s0.heap.objs.size = none := by
    cases e : s0.heap.get? s0.heap.objs.size with
    | none => rfl
    | some o => exact absurd (Heap.lt_size e) (Nat.lt_irrefl _)
  generalize hob2 : ({ cls := .type "list", data := .seq #[] } : Obj) = ob2
  have zI : (s0.heap.push ob).objs.size = s0.heap.objs.size + 1 := Heap.size_push ..
  have nSI : (s0.heap.push ob).objs.size ≠ s0.heap.objs.size := by rw [zI]; omega
  have nS : ¬ (s0.heap.push ob).objs.size < s0.heap.objs.size := by rw [zI]; omega
  generalize hS : (s0.heap.push ob).objs.size = S at *
  have e2 : ((s0.heap.push ob).push ob2).get? S = some ob2 := by subst hS; subst hob2; exact Heap.get?_push_size _ rfl
  have fS : s0.heap.get? S = none := by
    cases e : s0.heap.get? S with
    | none => rfl
    | some o => exact absurd (Heap.lt_size e) nS
  have kb2 : KeptBy s0.heap ((s0.heap.push ob).push ob2) := fun b o e => Heap.get?_push_of_some _ (Heap.get?_push_of_some _ e)
  have nlI : l ≠ s0.heap.objs.size := Nat.ne_of_lt hlt0
  have W := Walks.list (prog := p) (w := w) (A := A.in1) hh s0.heap.objs.size l nlI us.toArray
  have z : us.toArray.size = us.length := List.size_toArray ..
  have it0 : ((s0.heap.push ob).push ob2).IsListIter s0.heap.objs.size l 0 := ⟨ob, Heap.get?_push_of_some _ fI, by rw [← hob], by rw [← hob]; rfl⟩
  refine codeAny_builtin PySem.F.entry_min_loop ?_
  rw [Around.under_plainId PySem.F.plain_min_loop _]
  subst hob2
  refine wpAny_bind (wpAny_seqItems e2 rfl ?_)
  refine wpAny_bind (wpAny_tryCatch (W.item 0 _ _ _ (by rw [z]; exact hne) ⟨it0, hl.at fun o e => kb2 l o e⟩ fun v h' tk ev st hk' => ?_))
  have eS' := hk' S _ (by simpa using nSI) e2
  have kb' : KeptBy s0.heap h' := fun b o e => hk' b o (fun hm => by
    have : b = s0.heap.objs.size := by simpa using hm
    rw [this, nI] at e; cases e) (kb2 b o e)
  show wpAny (model p w) A.in1 (updateSeq S (fun _ => #[v, v]) >>= _) _ _ _
  refine wpAny_bind ?_
  refine wpAny_updateSeq eS' rfl ?_
  rw [nm]
  have oldS : ∀ {f : Obj → Obj}, KeptBy s0.heap (h'.update S f) := fun b o e => (Heap.get?_update_other _ _ (fun q => by rw [← q, fS] at e; cases e)).trans (kb' b o e)
  refine wpAny_pure ⟨plainId_quiet PySem.F.plain_min_loop _, ?_⟩
  exact low_loop (s0 := s0) hh hl nI fS nSI hlt hQ _ 0 _ tk v _ rfl hne oldS (st.1.at fun o e => (Heap.get?_update_other _ _ nSI).trans e) (Heap.get?_update_self _ eS' rfl) (by simpa [firstLow] using ev)
end
end L2

set_option linter.all false
set_option Elab.async false
set_option maxRecDepth 100000
set_option maxHeartbeats 4000000
namespace L2
open PySem PySem.Spec PyProof.Rows PySem.SeqAt
/-! ### the order of tuples of numbers and lists of numbers, and min by it -/
/-- an order in which of two things one is less -/
structure Ord {α : Type} (lt : α → α → Bool) : Prop where
  irr : ∀ x, lt x x = false
  tr : ∀ x y z, lt x y = true → lt y z = true → lt x z = true
  tot : ∀ x y, x ≠ y → lt x y = true ∨ lt y x = true
def lexB {α : Type} [DecidableEq α] (lt : α → α → Bool) : List α → List α → Bool
  | [], [] => false
  | [], _ :: _ => true
  | _ :: _, [] => false
  | x :: xs, y :: ys => if x = y then lexB lt xs ys else lt x y
section
variable {α : Type} [DecidableEq α] {lt : α → α → Bool}
theorem lexB_irr : ∀ xs : List α, lexB lt xs xs = false
  | [] => rfl
  | x :: xs => by simp only [lexB, if_true]; exact lexB_irr xs
theorem lexB_tr (o : Ord lt) : ∀ xs ys zs : List α, lexB lt xs ys = true → lexB lt ys zs = true → lexB lt xs zs = true
  | [], [], _, h, _ => nomatch h
  | [], _ :: _, [], _, h => nomatch h
  | [], _ :: _, _ :: _, _, _ => rfl
  | _ :: _, [], _, h, _ => nomatch h
  | _ :: _, _ :: _, [], _, h => nomatch h
  | x :: xs, y :: ys, z :: zs, h1, h2 => by
    simp only [lexB] at h1 h2 ⊢
    by_cases e1 : x = y
    · subst e1
      rw [if_pos rfl] at h1
      by_cases e2 : x = z
      · subst e2
        rw [if_pos rfl] at h2 ⊢
        exact lexB_tr o xs ys zs h1 h2
      · rw [if_neg e2] at h2 ⊢; exact h2
    · rw [if_neg e1] at h1
      by_cases e2 : y = z
      · subst e2
        rw [if_neg e1]; exact h1
      · rw [if_neg e2] at h2
        have h3 := o.tr x y z h1 h2
        by_cases e3 : x = z
        · subst e3
          rw [o.irr] at h3; cases h3
        · rw [if_neg e3]; exact h3
theorem lexB_tot (o : Ord lt) : ∀ xs ys : List α, xs ≠ ys → lexB lt xs ys = true ∨ lexB lt ys xs = true
  | [], [], h => absurd rfl h
  | [], _ :: _, _ => .inl rfl
  | _ :: _, [], _ => .inr rfl
  | x :: xs, y :: ys, h => by
    simp only [lexB]
    by_cases e : x = y
    · subst e
      rw [if_pos rfl, if_pos rfl]
      exact lexB_tot o xs ys fun q => h (by rw [q])
    · rw [if_neg e, if_neg fun q => e q.symm]
      exact o.tot x y e
theorem lexB_ord (o : Ord lt) : Ord (lexB lt) := ⟨lexB_irr, lexB_tr o, lexB_tot o⟩
end
theorem int_ord : Ord (fun a b : Int => decide (a < b)) := ⟨fun x => by simp, fun x y z h1 h2 => by simp at *; omega, fun x y h => by simp; omega⟩
/-- numbers place by place -/
def ltI : List Int → List Int → Bool := lexB fun a b : Int => decide (a < b)
theorem ltI_ord : Ord ltI := lexB_ord int_ord
/-- what stands in a tuple: a number or numbers -/
inductive CV where
  | n (i : Int)
  | s (l : List Int)
deriving DecidableEq
def CV.lt : CV → CV → Bool
  | .n a, .n b => decide (a < b)
  | .s a, .s b => ltI a b
  | .n _, .s _ => true
  | .s _, .n _ => false
theorem cv_ord : Ord CV.lt := by
  refine ⟨fun x => ?_, fun x y z h1 h2 => ?_, fun x y h => ?_⟩
  · cases x with
    | n i => exact int_ord.irr i
    | s l => exact ltI_ord.irr l
  · cases x <;> cases y <;> cases z <;> first
      | exact int_ord.tr _ _ _ h1 h2
      | exact ltI_ord.tr _ _ _ h1 h2
      | rfl
      | (have q := h1; simp [CV.lt] at q; done)
      | (have q := h2; simp [CV.lt] at q; done)
  · cases x <;> cases y <;> first
      | exact int_ord.tot _ _ fun q => h (by rw [q])
      | exact ltI_ord.tot _ _ fun q => h (by rw [q])
      | exact .inl rfl
      | exact .inr rfl
def ltT : List CV → List CV → Bool := lexB CV.lt
theorem ltT_ord : Ord ltT := lexB_ord cv_ord
theorem firstLow_min {cs : Nat → List CV} : ∀ (n i : Nat), i ≤ n → ltT (cs i) (cs (firstLow (fun i j => ltT (cs i) (cs j)) n)) = false
  | 0, i, h => by
    have : i = 0 := by omega
    subst this
    exact ltT_ord.irr _
  | n + 1, i, h => by
    have ih := firstLow_min (cs := cs) n
    simp only [firstLow]
    by_cases hb : ltT (cs (n + 1)) (cs (firstLow (fun i j => ltT (cs i) (cs j)) n)) = true
    case neg =>
      rw [if_neg hb]
      have hb := (Bool.not_eq_true _).mp hb
      by_cases e : i = n + 1
      · subst e; exact hb
      · exact ih i (by omega)
    case pos =>
      rw [if_pos hb]
      by_cases e : i = n + 1
      · subst e; exact ltT_ord.irr _
      · have h1 := ih i (by omega)
        cases h2 : ltT (cs i) (cs (n + 1)) with
        | false => rfl
        | true => rw [ltT_ord.tr _ _ _ h2 hb] at h1; cases h1
/-- a value reads as such a thing -/
def RC (H : Hp) (x : V) (c : CV) : Prop := match c with
  | .n i => x = .int i
  | .s l => ∃ a, x = .ref a ∧ H a = some (.lst (l.map V.int))
def Kin : CV → CV → Prop
  | .n _, .n _ => True
  | .s _, .s _ => True
  | _, _ => False
/-- two tuples whose kinds agree as far as they are looked at -/
def Kins : List CV → List CV → Prop
  | [], _ => True
  | _ :: _, [] => True
  | x :: xs, y :: ys => Kin x y ∧ (x = y → Kins xs ys)
theorem map_int_inj {l m : List Int} (h : l.map V.int = m.map V.int) : l = m := by
  have : Function.Injective V.int := fun a b e => by injection e
  exact List.map_inj_right (fun a b e => this e) |>.mp h
section
variable {X : Cx} {pins : List (Addr × Obj)} {σ : St} {H : Hp} {s : Shared}
theorem all_eq {l m : List Int} (h : l.length = m.length) : (List.range l.length).all (fun j => decide (l.getD j 0 = m.getD j 0)) = decide (l = m) := by
  by_cases e : l = m
  · subst e; simp
  · rw [decide_eq_false e, List.all_eq_false]
    obtain ⟨i, hi⟩ : ∃ i, l[i]? ≠ m[i]? := Classical.byContradiction fun q => e (List.ext_getElem? fun i => Classical.byContradiction fun z => q ⟨i, z⟩)
    have hl : i < l.length := Classical.byContradiction fun q => hi (by rw [List.getElem?_eq_none (by omega), List.getElem?_eq_none (by omega)])
    refine ⟨i, List.mem_range.mpr hl, ?_⟩
    simp only [decide_eq_true_eq]
    intro q
    have hm : i < m.length := by omega
    rw [List.getD_eq_getElem?_getD, List.getD_eq_getElem?_getD, List.getElem?_eq_getElem hl, List.getElem?_eq_getElem hm] at q
    exact hi (by rw [List.getElem?_eq_getElem hl, List.getElem?_eq_getElem hm]; simpa using q)
theorem eq_cv (I : Inv X pins σ H s) {A : Around} (hA : A.units + 1 < cLine) {x y : V} {u v : Value} {c d : CV} (h1 : RC H x c) (h2 : RC H y d) (hk : Kin c d) (r1 : RelV x u) (r2 : RelV y v) : EqAt A s u v (decide (c = d)) := by
  cases c with
  | n i =>
    cases d with
    | s m => exact hk.elim
    | n j =>
      cases (show x = .int i from h1)
      cases (show y = .int j from h2)
      obtain ⟨t, rfl⟩ := r1
      obtain ⟨t', rfl⟩ := r2
      have e : decide (CV.n i = CV.n j) = (i == j) := by
        rw [Bool.beq_eq_decide_eq]; exact decide_eq_decide.mpr ⟨fun q => by injection q, fun q => by rw [q]⟩
      rw [e]
      exact EqAt.int_int i t j t'
  | s l =>
    cases d with
    | n j => exact hk.elim
    | s m =>
      obtain ⟨a, rfl, ha⟩ := h1
      obtain ⟨b, rfl, hb⟩ := h2
      cases r1
      cases r2
      have e : decide (CV.s l = CV.s m) = decide (l = m) := decide_eq_decide.mpr ⟨fun q => by injection q, fun q => by rw [q]⟩
      rw [e]
      by_cases hab : a = b
      · subst hab
        rw [ha] at hb
        have : l = m := map_int_inj (by injection hb with q; injection q)
        rw [decide_eq_true this]
        exact EqAt.same _
      · obtain ⟨us, q1, p1, _⟩ := I.list (SqL.of ha)
        obtain ⟨vs, q2, p2, _⟩ := I.list (SqL.of hb)
        have i1 := intsAre_of q1
        have i2 := intsAre_of q2
        have l1 := q1.length
        have l2 := q2.length
        rw [List.length_map] at l1 l2
        by_cases hl : l.length = m.length
        · refine EqAt.of_refs hab ?_
          have := RcAt.lists (A := A) (e := fun j => decide (l.getD j 0 = m.getD j 0)) p1.isList p2.isList (by simp only [List.size_toArray]; omega) (by omega) fun j a1 a2 => by
            obtain ⟨t1, e1⟩ := ints_at i1 j a1
            obtain ⟨t2, e2⟩ := ints_at i2 j a2
            rw [e1, e2, ← Bool.beq_eq_decide_eq]
            exact EqAt.int_int (A := A.in1) (s := s) (l.getD j 0) t1 (m.getD j 0) t2
          rwa [show us.toArray.size = l.length by simp only [List.size_toArray]; omega, all_eq hl] at this
        · rw [decide_eq_false fun q => hl (by rw [q])]
          exact EqAt.of_refs hab (RcAt.lists_lengths p1.isList p2.isList (by simp only [List.size_toArray, bne_iff_ne]; omega) (by omega))
theorem less_ints {A : Around} : ∀ {us vs : List Value} {l m : List Int}, IntsAre us l → IntsAre vs m → Lesser A s us vs (ltI l m)
  | _, _, _, _, .nil, .nil => .both
  | _, _, _, _, .nil, .cons _ _ _ => .short
  | _, _, _, _, .cons _ _ _, .nil => .long
  | _, _, _, _, .cons a t h1, .cons b t' h2 => by
    have e := EqAt.int_int (A := A) (s := s) a t b t'
    unfold ltI
    simp only [lexB]
    by_cases z : a = b
    · rw [if_pos z]
      rw [beq_iff_eq.mpr z] at e
      exact .on e (less_ints h1 h2)
    · rw [if_neg z]
      rw [beq_eq_false_iff_ne.mpr z] at e
      exact .off e fun p w E Q q => lt_int q
theorem less_cv (I : Inv X pins σ H s) {A : Around} (hA : A.units + 1 < cLine) {x y : V} {u v : Value} {c d : CV} (h1 : RC H x c) (h2 : RC H y d) (hk : Kin c d) (r1 : RelV x u) (r2 : RelV y v) : LessAt A s u v (CV.lt c d) := by
  cases c with
  | n i =>
    cases d with
    | s m => exact hk.elim
    | n j =>
      cases (show x = .int i from h1)
      cases (show y = .int j from h2)
      obtain ⟨t, rfl⟩ := r1
      obtain ⟨t', rfl⟩ := r2
      exact fun p w E Q q => lt_int q
  | s l =>
    cases d with
    | n j => exact hk.elim
    | s m =>
      obtain ⟨a, rfl, ha⟩ := h1
      obtain ⟨b, rfl, hb⟩ := h2
      cases r1
      cases r2
      obtain ⟨us, q1, p1, _⟩ := I.list (SqL.of ha)
      obtain ⟨vs, q2, p2, _⟩ := I.list (SqL.of hb)
      exact less_lists p1.isList p2.isList (by omega) (less_ints (by simpa using intsAre_of q1) (by simpa using intsAre_of q2))
theorem less_cvs (I : Inv X pins σ H s) {A : Around} (hA : A.units + 1 < cLine) : ∀ {xs ys : List V} {us vs : List Value} {cs ds : List CV}, Paired (RC H) xs cs → Paired (RC H) ys ds → Kins cs ds → Vals xs us → Vals ys vs → Lesser A s us vs (ltT cs ds)
  | _, _, _, _, _, _, .nil, .nil, _, .nil, .nil => .both
  | _, _, _, _, _, _, .nil, .cons _ _, _, .nil, .cons _ _ => .short
  | _, _, _, _, _, _, .cons _ _, .nil, _, .cons _ _, .nil => .long
  | _, _, _, _, _, _, .cons (b := c) h1 t1, .cons (b := d) h2 t2, hk, .cons r1 q1, .cons r2 q2 => by
    have e := eq_cv I hA h1 h2 hk.1 r1 r2
    unfold ltT
    simp only [lexB]
    by_cases z : c = d
    · rw [if_pos z]
      rw [decide_eq_true z] at e
      exact .on e (less_cvs I hA t1 t2 (hk.2 z) q1 q2)
    · rw [if_neg z]
      rw [decide_eq_false z] at e
      exact .off e (less_cv I hA h1 h2 hk.1 r1 r2)
end
end L2

set_option linter.all false
set_option Elab.async false
set_option maxRecDepth 100000
set_option maxHeartbeats 4000000
namespace L2
open PySem PySem.Spec PyProof.Rows PySem.SeqAt
section
variable {X : Cx}
@[irreducible] def hMinT (a : Addr) (H : Hp) (Q : VK) : Prop := ∃ (as : List Addr) (cs : Nat → List CV), H a = some (.lst (as.map V.ref)) ∧ as ≠ [] ∧ (∀ (i : Nat) b, as[i]? = some b → ∃ xs, H b = some (.tup xs) ∧ Paired (RC H) xs (cs i)) ∧ (∀ i j, i ≠ j → i < as.length → j < as.length → Kins (cs i) (cs j)) ∧
  ∀ (k : Nat) b, as[k]? = some b → (∀ i, i < as.length → ltT (cs i) (cs k) = false) → Q (.ref b) H
def vMinT : List V → Hp → VK → Prop := fun xs H Q => match xs with
  | [.ref a] => hMinT a H Q
  | _ => False
theorem kMinT {n : Nat} (hr : Room n X.A) (hc : X.calm = true) : CallR X (.builtin "min") vMinT := by
  intro pins s σ H xs us Q I r h
  unfold vMinT at h
  split at h
  · rename_i a
    unfold hMinT at h
    obtain ⟨as, cs, ha, hne, hit, hk, q⟩ := h
    obtain ⟨u, rfl, rx⟩ := vals1 r
    cases rx
    obtain ⟨its, r', pl, _⟩ := I.list (SqL.of ha)
    have hl := r'.length
    rw [List.length_map] at hl
    have hpos : 0 < as.length := List.length_pos_iff.mpr hne
    have its_at : ∀ (i : Nat) (v : Value), its[i]? = some v → ∃ b, as[i]? = some b ∧ v = .ref b := fun i v hv => by
      have hi : i < as.length := by have := (List.getElem?_eq_some_iff.mp hv).1; omega
      have e : (as.map V.ref)[i]? = some (.ref as[i]) := by rw [List.getElem?_map, List.getElem?_eq_getElem hi]; rfl
      exact ⟨as[i], List.getElem?_eq_getElem hi, paired_at r' i e hv⟩
    have hu := hr.units
    refine low_call (lt := fun i j => ltT (cs i) (cs j)) (I.ok.hd hc) pl.isList (by omega) (fun i j x y nij hx hy h' t kb => ?_) fun v h' t hv kb => ?_
    · obtain ⟨b1, g1, rfl⟩ := its_at i x hx
      obtain ⟨b2, g2, rfl⟩ := its_at j y hy
      have I' : Inv X pins σ H { s with heap := h', toks := t } := I.kept (t' := t) kb
      obtain ⟨xs1, f1, p1⟩ := hit i b1 g1
      obtain ⟨xs2, f2, p2⟩ := hit j b2 g2
      obtain ⟨us1, v1, t1, _⟩ := I'.tuple (SqT.of f1)
      obtain ⟨us2, v2, t2, _⟩ := I'.tuple (SqT.of f2)
      refine less_tuples t1 t2 (by show X.A.units + 1 < cLine; omega) ?_
      exact less_cvs I' (by show X.A.units + 1 + 1 + 1 < cLine; omega) p1 p2 (hk i j nij (List.getElem?_eq_some_iff.mp g1).1 (List.getElem?_eq_some_iff.mp g2).1) (by simpa using v1) (by simpa using v2)
    · obtain ⟨b, hb, rfl⟩ := its_at _ v hv
      refine ⟨.ref b, H, I.kept kb, rfl, q _ b hb fun i hi => ?_⟩
      exact firstLow_min (cs := cs) (its.length - 1) i (by omega)
  · exact h.elim
theorem i_minT {a : Addr} {H : Hp} {Q : VK} {as : List Addr} (cs : Nat → List CV) (ha : H a = some (.lst (as.map V.ref))) (hne : as ≠ []) (hit : ∀ (i : Nat) b, as[i]? = some b → ∃ xs, H b = some (.tup xs) ∧ Paired (RC H) xs (cs i)) (hk : ∀ i j, i ≠ j → i < as.length → j < as.length → Kins (cs i) (cs j))
    (q : ∀ (k : Nat) b, as[k]? = some b → (∀ i, i < as.length → ltT (cs i) (cs k) = false) → Q (.ref b) H) : hMinT a H Q := by unfold hMinT; exact ⟨as, cs, ha, hne, hit, hk, q⟩
end
end L2

namespace M3
/-- a cut of a row of n numbers -/
structure CutN (cs : List Nat) (n : Nat) : Prop where
  up : cs.Pairwise (· < ·)
  lo : ∀ c ∈ cs, 1 ≤ c
  hi : ∀ c ∈ cs, c < n
end M3
namespace M3
end M3

set_option linter.all false
namespace M25
/-- the sum of the first i numbers -/
def S (ns : List Int) (i : Nat) : Int := (ns.take i).sum
theorem S_zero (ns : List Int) : S ns 0 = 0 := by simp [S]
theorem S_succ {ns : List Int} {i : Nat} {x : Int} (h : ns[i]? = some x) : S ns (i + 1) = S ns i + x := by
  unfold S
  rw [List.take_add_one, h, List.sum_append]; simp
theorem S_bd {ns : List Int} (h0 : ∀ n ∈ ns, 0 ≤ n) (h1 : ∀ n ∈ ns, n ≤ 1000000000000) : ∀ i, 0 ≤ S ns i ∧ S ns i ≤ 1000000000000 * i
  | 0 => by rw [S_zero]; omega
  | i + 1 => by
    have ih := S_bd h0 h1 i
    cases e : ns[i]? with
    | some x =>
      rw [S_succ e]
      have := h0 x (List.mem_of_getElem? e); have := h1 x (List.mem_of_getElem? e)
      omega
    | none =>
      have hl : ns.length ≤ i := List.getElem?_eq_none_iff.mp e
      have : S ns (i + 1) = S ns i := by unfold S; rw [List.take_of_length_le (by omega), List.take_of_length_le hl]
      rw [this]; omega
def pre (ns : List Int) (k : Nat) : List Int := (List.range k).map (S ns)
theorem pre_succ (ns : List Int) (k : Nat) : pre ns (k + 1) = pre ns k ++ [S ns k] := by unfold pre; rw [List.range_succ, List.map_append]; rfl
theorem pre_len (ns : List Int) (k : Nat) : (pre ns k).length = k := by simp [pre]
theorem pre_at {ns : List Int} {k i : Nat} (h : i < k) : (pre ns k)[i]? = some (S ns i) := by
  unfold pre; rw [List.getElem?_map, List.getElem?_range h]; rfl
/-- a way of k steps from b to e at cost c -/
def Path (w : Nat → Nat → Int) : Nat → Nat → Nat → Int → Prop
  | 0, b, e, c => b = e ∧ c = 0
  | k + 1, b, e, c => ∃ m c', b < m ∧ Path w k m e c' ∧ c = w b m + c'
section
variable {w : Nat → Nat → Int}
theorem path_le : ∀ {k b e c}, Path w k b e c → b + k ≤ e
  | 0, b, e, c, h => by have := h.1; omega
  | k + 1, b, e, c, ⟨m, c', h1, h2, h3⟩ => by have := path_le h2; omega
theorem path_snoc : ∀ {k b m c e}, Path w k b m c → m < e → Path w (k + 1) b e (c + w m e)
  | 0, b, m, c, e, ⟨h1, h2⟩, h => ⟨e, 0, by omega, ⟨rfl, rfl⟩, by subst h1; subst h2; omega⟩
  | k + 1, b, m, c, e, ⟨m1, c1, h1, h2, h3⟩, h => ⟨m1, c1 + w m e, h1, path_snoc h2 h, by omega⟩
theorem path_unsnoc : ∀ {k b e c}, Path w (k + 1) b e c → ∃ m c', m < e ∧ Path w k b m c' ∧ c = c' + w m e
  | 0, b, e, c, ⟨m, c', h1, ⟨h2, h3⟩, h4⟩ => ⟨b, 0, by omega, ⟨rfl, rfl⟩, by subst h2; subst h3; omega⟩
  | k + 1, b, e, c, ⟨m, c', h1, h2, h4⟩ => by
    obtain ⟨m2, c2, g1, g2, g3⟩ := path_unsnoc h2
    exact ⟨m2, w b m + c2, g1, ⟨m, c2, h1, g2, rfl⟩, by omega⟩
def Least (w : Nat → Nat → Int) (k b e : Nat) (v : Int) : Prop := Path w k b e v ∧ ∀ c, Path w k b e c → v ≤ c
theorem Least.uniq {k b e : Nat} {u v : Int} (h1 : Least w k b e u) (h2 : Least w k b e v) : u = v := Int.le_antisymm (h1.2 v h2.1) (h2.2 u h1.1)
theorem path_one {b e : Nat} {c : Int} : Path w 1 b e c ↔ b < e ∧ c = w b e := by
  constructor
  · rintro ⟨m, c', h1, ⟨h2, h3⟩, h4⟩
    subst h2; subst h3; exact ⟨h1, by omega⟩
  · rintro ⟨h1, h2⟩
    exact ⟨e, 0, h1, ⟨rfl, rfl⟩, by omega⟩
theorem least_one {b e : Nat} (h : b < e) : Least w 1 b e (w b e) := ⟨path_one.mpr ⟨h, rfl⟩, fun c hc => by rw [(path_one.mp hc).2]; exact Int.le_refl _⟩
theorem least_zero (b : Nat) : Least w 0 b b 0 := ⟨⟨rfl, rfl⟩, fun c hc => by rw [hc.2]; exact Int.le_refl _⟩
theorem least_back {k b e : Nat} {M : Int} (f : Nat → Int) (hf : ∀ m, b < m → m + k ≤ e → Least w k m e (f m)) (hm : ∃ m, b < m ∧ m + k ≤ e ∧ M = w b m + f m) (hmin : ∀ m, b < m → m + k ≤ e → M ≤ w b m + f m) : Least w (k + 1) b e M := by
  obtain ⟨m, h1, h2, rfl⟩ := hm
  refine ⟨⟨m, f m, h1, (hf m h1 h2).1, rfl⟩, ?_⟩
  rintro c ⟨m', c', g1, g2, rfl⟩
  have hl := path_le g2
  have := hmin m' g1 hl
  have := (hf m' g1 hl).2 c' g2
  omega
theorem least_fwd {k t : Nat} {M : Int} (g : Nat → Int) (ok : Nat → Prop) (hg : ∀ m, m < t → ok m → Least w k 0 m (g m)) (hok : ∀ m c, m < t → Path w k 0 m c → ok m) (hm : ∃ m, m < t ∧ ok m ∧ M = g m + w m t) (hmin : ∀ m, m < t → ok m → M ≤ g m + w m t) : Least w (k + 1) 0 t M := by
  obtain ⟨m, h1, h2, rfl⟩ := hm
  refine ⟨path_snoc (hg m h1 h2).1 h1, ?_⟩
  intro c hc
  obtain ⟨m', c', g1, g2, rfl⟩ := path_unsnoc hc
  have hl := hok m' c' g1 g2
  have := hmin m' g1 hl
  have := (hg m' g1 hl).2 c' g2
  omega
theorem path_nn (h : ∀ b e, 0 ≤ w b e) : ∀ {k b e c}, Path w k b e c → 0 ≤ c
  | 0, b, e, c, p => by rw [p.2]; exact Int.le_refl _
  | k + 1, b, e, c, ⟨m, c', h1, h2, h3⟩ => by have := path_nn h h2; have := h b m; omega
end
/-- the square of a stretch's sum -/
def sq (ns : List Int) (b e : Nat) : Int := (S ns e - S ns b) ^ 2
theorem sq_nn (ns : List Int) (b e : Nat) : 0 ≤ sq ns b e := by
  unfold sq
  rw [Int.pow_succ, Int.pow_succ, Int.pow_zero, Int.one_mul]
  rcases Int.le_total 0 (S ns e - S ns b) with h | h
  · exact Int.mul_nonneg h h
  · exact Int.mul_nonneg_of_nonpos_of_nonpos h h
/-- a table's row of so many pieces left: a value for each begin -/
def RowOk (ns : List Int) (k : Nat) (r : List Int) : Prop := r.length + k = ns.length + 1 ∧ ∀ b v, r[b]? = some v → Least (sq ns) k b ns.length v
/-- a level: for each end the least of so many pieces, -1 where there is none -/
def LevOk (ns : List Int) (p : Nat) (r : List Int) : Prop := r.length = ns.length + 1 ∧ ∀ t v, r[t]? = some v → (0 ≤ v ∧ Least (sq ns) p 0 t v) ∨ (v = -1 ∧ ∀ c, ¬ Path (sq ns) p 0 t c)
/-- the least of one piece, two, .. -/
def Evens (ns : List Int) (zs : List Int) : Prop := zs.length = ns.length ∧ ∀ i v, zs[i]? = some v → Least (sq ns) (i + 1) 0 ns.length v
theorem Evens.uniq {ns zs ys : List Int} (h1 : Evens ns zs) (h2 : Evens ns ys) : zs = ys := by
  apply List.ext_getElem (by rw [h1.1, h2.1])
  intro i g1 g2
  exact (h1.2 i _ (List.getElem?_eq_getElem g1)).uniq (h2.2 i _ (List.getElem?_eq_getElem g2))
theorem row_one {ns : List Int} : RowOk ns 1 ((List.range ns.length).map fun b => sq ns b ns.length) := by
  refine ⟨by simp, fun b v h => ?_⟩
  rw [List.getElem?_map] at h
  by_cases hb : b < ns.length
  · rw [List.getElem?_range hb] at h; cases h; exact least_one hb
  · rw [List.getElem?_eq_none (by simpa using hb)] at h; cases h
theorem pos_of {ns : List Int} {p t : Nat} {c : Int} (h : Path (sq ns) p 0 t c) : p ≤ t := by have := path_le h; omega
theorem path_ex {w : Nat → Nat → Int} : ∀ {k b e : Nat}, 1 ≤ k → b + k ≤ e → ∃ c, Path w k b e c
  | 1, b, e, _, h => ⟨w b e, path_one.mpr ⟨by omega, rfl⟩⟩
  | k + 2, b, e, _, h => by
    obtain ⟨c, hc⟩ := path_ex (w := w) (k := k + 1) (b := b + 1) (e := e) (by omega) (by omega)
    exact ⟨_, b + 1, c, by omega, hc, rfl⟩
theorem path_diag {w : Nat → Nat → Int} (i : Nat) : ∃ c, Path w i 0 i c := by
  cases i with
  | zero => exact ⟨0, rfl, rfl⟩
  | succ i => exact path_ex (by omega) (by omega)
theorem lev_zero {ns : List Int} : LevOk ns 0 (0 :: List.replicate ns.length (-1)) := by
  refine ⟨by simp, fun t v h => ?_⟩
  cases t with
  | zero => simp at h; subst h; exact .inl ⟨Int.le_refl 0, least_zero 0⟩
  | succ t =>
    rw [List.getElem?_cons_succ, List.getElem?_replicate] at h
    split at h
    · cases h
      exact .inr ⟨rfl, fun c p => by have := p.1; omega⟩
    · cases h
theorem LevOk.pos {ns r : List Int} {p t : Nat} {v c : Int} (h : LevOk ns p r) (e : r[t]? = some v) (pa : Path (sq ns) p 0 t c) : 0 ≤ v ∧ Least (sq ns) p 0 t v := by
  rcases h.2 t v e with h | h
  · exact h
  · exact absurd pa (h.2 c)
theorem getD_some {r : List Int} {t : Nat} (h : t < r.length) : r[t]? = some (r.getD t 0) := by rw [List.getD_eq_getElem?_getD, List.getElem?_eq_getElem h]; rfl
/-- a level half written -/
def LevTo (ns : List Int) (p upto : Nat) (r : List Int) : Prop := r.length = ns.length + 1 ∧ ∀ t v, r[t]? = some v → (t < upto ∧ p ≤ t ∧ 0 ≤ v ∧ Least (sq ns) p 0 t v) ∨ (v = -1 ∧ ¬ (t < upto ∧ p ≤ t))
theorem LevTo.none {ns : List Int} {p : Nat} : LevTo ns p p (List.replicate (ns.length + 1) (-1)) := by
  refine ⟨by simp, fun t v h => ?_⟩
  rw [List.getElem?_replicate] at h
  split at h
  · cases h; exact .inr ⟨rfl, by omega⟩
  · cases h
theorem LevTo.set {ns r : List Int} {p t : Nat} {M : Int} (h : LevTo ns p t r) (hp : p ≤ t) (hM : Least (sq ns) p 0 t M) : LevTo ns p (t + 1) (r.set t M) := by
  refine ⟨by rw [List.length_set]; exact h.1, fun u v e => ?_⟩
  by_cases hu : u = t
  · subst hu
    have hl : u < r.length := by
      have := (List.getElem?_eq_some_iff.mp e).1
      rwa [List.length_set] at this
    rw [List.getElem?_set_self hl] at e; cases e
    exact .inl ⟨by omega, hp, path_nn (sq_nn ns) hM.1, hM⟩
  · rw [List.getElem?_set_ne (fun z => hu z.symm)] at e
    rcases h.2 u v e with ⟨a, b, c⟩ | ⟨a, b⟩
    · exact .inl ⟨by omega, b, c⟩
    · exact .inr ⟨a, by omega⟩
theorem LevTo.all {ns r : List Int} {p : Nat} (hp : 1 ≤ p) (h : LevTo ns p (ns.length + 1) r) : LevOk ns p r := by
  refine ⟨h.1, fun t v e => ?_⟩
  have hl := (List.getElem?_eq_some_iff.mp e).1
  rcases h.2 t v e with ⟨_, _, c⟩ | ⟨a, b⟩
  · exact .inl c
  · exact .inr ⟨a, fun c pa => b ⟨by have := h.1; omega, pos_of pa⟩⟩
/-- what is collected for an end -/
structure Some_ (ns l : List Int) (i t upto : Nat) (vs : List Int) : Prop where
  a : ∀ v ∈ vs, ∃ m, i ≤ m ∧ m < upto ∧ 0 ≤ l.getD m 0 ∧ v = l.getD m 0 + sq ns m t
  b : ∀ m, i ≤ m → m < upto → 0 ≤ l.getD m 0 → l.getD m 0 + sq ns m t ∈ vs
theorem Some_.start (ns l : List Int) (i t : Nat) : Some_ ns l i t i [] := ⟨by simp, fun m h1 h2 => by omega⟩
theorem Some_.skip {ns l : List Int} {i t u : Nat} {vs : List Int} (h : Some_ ns l i t u vs) (hn : ¬ 0 ≤ l.getD u 0) : Some_ ns l i t (u + 1) vs :=
  ⟨fun v hv => let ⟨m, a, b, c⟩ := h.a v hv; ⟨m, a, by omega, c⟩, fun m h1 h2 h3 => by
    by_cases z : m = u
    · subst z; exact absurd h3 hn
    · exact h.b m h1 (by omega) h3⟩
theorem Some_.put {ns l : List Int} {i t u : Nat} {vs : List Int} (h : Some_ ns l i t u vs) (hi : i ≤ u) (hn : 0 ≤ l.getD u 0) : Some_ ns l i t (u + 1) (vs ++ [l.getD u 0 + sq ns u t]) :=
  ⟨fun v hv => by
    rcases List.mem_append.mp hv with hv | hv
    · obtain ⟨m, a, b, c⟩ := h.a v hv; exact ⟨m, a, by omega, c⟩
    · have : v = l.getD u 0 + sq ns u t := by simpa using hv
      exact ⟨u, hi, by omega, hn, this⟩, fun m h1 h2 h3 => by
    by_cases z : m = u
    · subst z; simp
    · exact List.mem_append_left _ (h.b m h1 (by omega) h3)⟩
theorem Some_.least {ns l : List Int} {i t : Nat} {vs : List Int} {M : Int} (h : Some_ ns l i t t vs) (ht : t ≤ ns.length) (hl : LevOk ns i l) (hM : M ∈ vs) (hmin : ∀ a, a ∈ vs → M ≤ a) : Least (sq ns) (i + 1) 0 t M := by
  have ll := hl.1
  refine least_fwd (fun m => l.getD m 0) (fun m => 0 ≤ l.getD m 0) (fun m h1 h2 => ?_) (fun m c h1 pa => ?_) ?_ (fun m h1 h2 => ?_)
  · rcases hl.2 m _ (getD_some (by omega)) with h | h
    · exact h.2
    · rw [h.1] at h2; omega
  · exact (hl.pos (getD_some (by omega)) pa).1
  · obtain ⟨m, a, b, c, d⟩ := h.a M hM
    exact ⟨m, b, c, d⟩
  · refine hmin _ (h.b m ?_ h1 h2)
    rcases hl.2 m _ (getD_some (r := l) (t := m) (by omega)) with z | z
    · exact pos_of z.2.1
    · rw [z.1] at h2; omega
theorem Some_.ne {ns l : List Int} {i t : Nat} {vs : List Int} (h : Some_ ns l i t t vs) (hi : i < t) (ht : t ≤ ns.length) (hl : LevOk ns i l) : vs ≠ [] := by
  obtain ⟨c, pa⟩ := path_diag (w := sq ns) i
  have ll := hl.1
  have := h.b i (Nat.le_refl _) hi (hl.pos (getD_some (by omega)) pa).1
  intro z; rw [z] at this; simp at this
theorem LevOk.last {ns r : List Int} {p : Nat} (hp : 1 ≤ p) (hn : p ≤ ns.length) (h : LevOk ns p r) : ∃ ini v, r = ini ++ [v] ∧ Least (sq ns) p 0 ns.length v := by
  have hl := h.1
  have hne : r ≠ [] := fun z => by rw [z] at hl; simp at hl
  refine ⟨r.dropLast, r.getLast hne, (List.dropLast_concat_getLast hne).symm, ?_⟩
  obtain ⟨c, pa⟩ := path_ex (w := sq ns) (k := p) (b := 0) (e := ns.length) hp (by omega)
  refine (h.pos (t := ns.length) ?_ pa).2
  rw [List.getLast_eq_getElem]
  have : r.length - 1 = ns.length := by omega
  rw [← this]
  exact List.getElem?_eq_getElem _
end M25

set_option linter.all false
namespace M25
section
variable {w : Nat → Nat → Int}
/-- e can be the next place where k pieces are left from b to n -/
def Hit (w : Nat → Nat → Int) (n k b e : Nat) : Prop := ∃ v u, Least w (k - 1) e n v ∧ Least w k b n u ∧ w b e + v = u
def Step (w : Nat → Nat → Int) (n k b e : Nat) : Prop := b < e ∧ Hit w n k b e ∧ ∀ e', b < e' → e' < e → ¬ Hit w n k b e'
theorem Step.uniq {n k b e e' : Nat} (h : Step w n k b e) (h' : Step w n k b e') : e = e' := by
  rcases Nat.lt_trichotomy e e' with z | z | z
  · exact absurd h.2.1 (h'.2.2 e h.1 z)
  · exact z
  · exact absurd h'.2.1 (h.2.2 e' h'.1 z)
/-- the first cut, place by place -/
inductive Chain (w : Nat → Nat → Int) (n m : Nat) : Nat → List Nat → Nat → Prop where
  | nil : Chain w n m 0 [] 0
  | snoc {i b e : Nat} {cs : List Nat} (h : Chain w n m i cs b) (s : Step w n (m - i) b e) : Chain w n m (i + 1) (cs ++ [e]) e
theorem Chain.uniq {n m : Nat} : ∀ {i b b' : Nat} {cs cs' : List Nat}, Chain w n m i cs b → Chain w n m i cs' b' → cs = cs' ∧ b = b'
  | 0, _, _, _, _, .nil, .nil => ⟨rfl, rfl⟩
  | i + 1, _, _, _, _, .snoc h s, .snoc h' s' => by
    obtain ⟨rfl, rfl⟩ := Chain.uniq h h'
    have := s.uniq s'
    subst this; exact ⟨rfl, rfl⟩
theorem Chain.len {n m : Nat} : ∀ {i b : Nat} {cs : List Nat}, Chain w n m i cs b → cs.length = i
  | 0, _, _, .nil => rfl
  | i + 1, _, _, .snoc h s => by rw [List.length_append, h.len]; rfl
theorem Hit.le {n k b e : Nat} (h : Hit w n k b e) : e + (k - 1) ≤ n := by obtain ⟨v, u, h1, _⟩ := h; exact path_le h1.1
theorem hit_ex {n k b : Nat} {u : Int} (hk : 2 ≤ k) (h : Least w k b n u) : ∃ e, b < e ∧ Hit w n k b e := by
  obtain ⟨k, rfl⟩ : ∃ j, k = j + 1 := ⟨k - 1, by omega⟩
  obtain ⟨m, c, h1, h2, h3⟩ := h.1
  refine ⟨m, h1, c, u, ⟨h2, fun c' h' => ?_⟩, h, h3.symm⟩
  have := h.2 (w b m + c') ⟨m, c', h1, h', rfl⟩
  omega
/-- a value at an end, and whether it is a hit -/
theorem hit_iff {n k b e : Nat} {u v : Int} (hv : Least w (k - 1) e n v) (hu : Least w k b n u) : Hit w n k b e ↔ w b e + v = u := by
  constructor
  · rintro ⟨v', u', h1, h2, h3⟩
    rw [h1.uniq hv, h2.uniq hu] at h3; exact h3
  · intro h; exact ⟨v, u, hv, hu, h⟩
theorem no_less {n k b e : Nat} {u v : Int} (hk : 1 ≤ k) (hb : b < e) (hv : Least w (k - 1) e n v) (hu : Least w k b n u) : u ≤ w b e + v := by
  obtain ⟨k, rfl⟩ : ∃ j, k = j + 1 := ⟨k - 1, by omega⟩
  exact hu.2 _ ⟨e, v, hb, hv.1, rfl⟩
theorem hit_before {n k b e t : Nat} (h : ∀ e', b < e' → e' < t → ¬ Hit w n k b e') (hh : Hit w n k b e) (hb : b < e) : t ≤ e := by
  rcases Nat.lt_or_ge e t with z | z
  · exact absurd hh (h e hb z)
  · exact z
end
theorem S_rev {ns : List Int} {i : Nat} (h : i ≤ ns.length) : S ns.reverse i = S ns ns.length - S ns (ns.length - i) := by
  unfold S
  have e : ns.reverse.take i = (ns.drop (ns.length - i)).reverse := by rw [List.take_reverse]
  rw [e, List.sum_reverse]
  have := congrArg List.sum (List.take_append_drop (ns.length - i) ns)
  rw [List.sum_append] at this
  rw [List.take_length]
  omega
theorem sq_rev {ns : List Int} {b m : Nat} (hb : b ≤ ns.length) (hm : m ≤ ns.length) : sq ns.reverse b m = sq ns (ns.length - m) (ns.length - b) := by
  unfold sq
  rw [S_rev hb, S_rev hm]
  congr 1; omega
theorem path_rev {ns : List Int} : ∀ {k b e : Nat} {c : Int}, e ≤ ns.length → Path (sq ns.reverse) k b e c → Path (sq ns) k (ns.length - e) (ns.length - b) c
  | 0, b, e, c, he, h => ⟨by have := h.1; omega, h.2⟩
  | k + 1, b, e, c, he, ⟨m, c', h1, h2, h3⟩ => by
    have hl := path_le h2
    have ih := path_rev he h2
    have := path_snoc ih (e := ns.length - b) (by omega)
    rw [h3, sq_rev (by omega) (by omega), Int.add_comm]
    exact this
theorem least_rev {ns : List Int} {k t : Nat} {v : Int} (ht : t ≤ ns.length) (h : Least (sq ns.reverse) k 0 t v) : Least (sq ns) k (ns.length - t) ns.length v := by
  refine ⟨by have := path_rev ht h.1; rwa [Nat.sub_zero] at this, fun c hc => h.2 c ?_⟩
  have e : ns.reverse.reverse = ns := List.reverse_reverse ns
  have hc' : Path (sq ns.reverse.reverse) k (ns.length - t) ns.length c := by rw [e]; exact hc
  have := path_rev (ns := ns.reverse) (by rw [List.length_reverse]; exact Nat.le_refl _) hc'
  rw [List.length_reverse, Nat.sub_self] at this
  have et : ns.length - (ns.length - t) = t := by omega
  rwa [et] at this
end M25

set_option linter.all false
namespace M25
section
variable {w : Nat → Nat → Int}
end
end M25

namespace M30
open M25
theorem S_mono {ns : List Int} (h0 : ∀ n ∈ ns, 0 ≤ n) {i : Nat} : ∀ {j : Nat}, i ≤ j → S ns i ≤ S ns j
  | 0, h => by obtain rfl : i = 0 := by omega
               exact Int.le_refl _
  | j + 1, h => by
    by_cases e : i = j + 1
    · subst e; exact Int.le_refl _
    have ih := S_mono h0 (i := i) (j := j) (by omega)
    cases hx : ns[j]? with
    | none =>
      have hl : ns.length ≤ j := List.getElem?_eq_none_iff.mp hx
      have : S ns (j + 1) = S ns j := by unfold S; rw [List.take_of_length_le (by omega), List.take_of_length_le hl]
      omega
    | some x =>
      have := S_succ hx
      have := h0 x (List.mem_of_getElem? hx)
      omega
end M30

set_option linter.all false
namespace M31
open M25 M30
variable {f : Nat → Int} {n : Nat}
/-- parting a stretch costs no more -/
def Sup (w : Nat → Nat → Int) : Prop := ∀ a b c, a ≤ b → b ≤ c → w a b + w b c ≤ w a c
theorem sq_sup {ns : List Int} (h0 : ∀ n ∈ ns, 0 ≤ n) : Sup (sq ns) := fun a b c h1 h2 => by
  have q1 := S_mono h0 h1
  have q2 := S_mono h0 h2
  unfold sq
  generalize S ns a = A at *
  generalize S ns b = B at *
  generalize S ns c = C at *
  have h : 0 ≤ (B - A) * (C - B) := Int.mul_nonneg (by omega) (by omega)
  have e : (C - A) ^ 2 - ((B - A) ^ 2 + (C - B) ^ 2) = 2 * ((B - A) * (C - B)) := by grind
  omega
theorem part {w : Nat → Nat → Int} (hw : Sup w) : ∀ {k b e : Nat} {c : Int}, 1 ≤ k → b + k < e → Path w k b e c → ∃ c', Path w (k + 1) b e c' ∧ c' ≤ c
  | 0, _, _, _, h, _, _ => by omega
  | k + 1, b, e, c, _, hl, ⟨m, c', h1, h2, h3⟩ => by
    by_cases hm : m = b + 1
    · by_cases hk : k = 0
      · subst hk
        have := h2.1
        omega
      · obtain ⟨d, g1, g2⟩ := part hw (by omega) (by omega) h2
        exact ⟨w b m + d, ⟨m, d, h1, g1, rfl⟩, by omega⟩
    · have := hw b (b + 1) m (by omega) (by omega)
      exact ⟨w b (b + 1) + (w (b + 1) m + c'), ⟨b + 1, _, by omega, ⟨m, c', by omega, h2, rfl⟩, rfl⟩, by omega⟩
section
variable {ns zs : List Int}
theorem ev_at (h : Evens ns zs) {i : Nat} (hi : i < ns.length) : Least (sq ns) (i + 1) 0 ns.length (zs.getD i 0) := h.2 i _ (getD_some (by rw [h.1]; exact hi))
theorem ev_down (h0 : ∀ n ∈ ns, 0 ≤ n) (h : Evens ns zs) {i : Nat} (hi : i + 1 < ns.length) : zs.getD (i + 1) 0 ≤ zs.getD i 0 := by
  obtain ⟨c, p, q⟩ := part (sq_sup h0) (by omega) (by omega) (ev_at h (i := i) (by omega)).1
  have := (ev_at h (i := i + 1) hi).2 c p
  omega
theorem ev_last (h0 : ∀ n ∈ ns, 0 ≤ n) (h : Evens ns zs) {i : Nat} : ∀ j, i + j < ns.length → zs.getD (i + j) 0 ≤ zs.getD i 0
  | 0, _ => Int.le_refl _
  | j + 1, hj => by
    have := ev_last h0 h (i := i) j (by omega)
    have := ev_down h0 h (i := i + j) hj
    rw [show i + (j + 1) = i + j + 1 by omega]
    omega
theorem ev_nn (h : Evens ns zs) {i : Nat} (hi : i < ns.length) : 0 ≤ zs.getD i 0 := path_nn (sq_nn ns) (ev_at h hi).1
theorem sq_bd (h0 : ∀ n ∈ ns, 0 ≤ n) (h1 : ∀ n ∈ ns, n ≤ 1000000000000) (hl : ns.length ≤ 120) : sq ns 0 ns.length ≤ 14400000000000000000000000000 := by
  have := S_bd h0 h1 ns.length
  unfold sq
  rw [S_zero]
  have e : (S ns ns.length - 0) ^ 2 = S ns ns.length * S ns ns.length := by grind
  rw [e]
  have : S ns ns.length ≤ 120000000000000 := by omega
  have := Int.mul_le_mul this this (by omega) (by decide)
  omega
theorem ev_first (hn : 1 ≤ ns.length) (h : Evens ns zs) : zs.getD 0 0 = sq ns 0 ns.length := (path_one.mp (ev_at h (i := 0) (by omega)).1).2
theorem ev_ub (h0 : ∀ n ∈ ns, 0 ≤ n) (h1 : ∀ n ∈ ns, n ≤ 1000000000000) (hl : ns.length ≤ 120) (h : Evens ns zs) {i : Nat} (hi : i < ns.length) : zs.getD i 0 ≤ 14400000000000000000000000000 := by
  have := ev_last h0 h (i := 0) i (by omega)
  rw [Nat.zero_add, ev_first (by omega) h] at this
  have := sq_bd h0 h1 hl
  omega
/-- the first of the least costs at a price -/
structure CostAt (zs : List Int) (price cost : Int) (m : Nat) : Prop where
  m1 : 1 ≤ m
  mn : m ≤ zs.length
  at_ : cost = zs.getD (m - 1) 0 + price * (m : Int)
  le : ∀ i, i < zs.length → cost ≤ zs.getD i 0 + price * ((i + 1 : Nat) : Int)
  ne : ∀ i, i + 1 < m → zs.getD i 0 + price * ((i + 1 : Nat) : Int) ≠ cost
/-- the costs at a price -/
def costs (zs : List Int) (price : Int) : List Int := (List.range zs.length).map fun i => zs.getD i 0 + price * ((i + 1 : Nat) : Int)
theorem costs_len (zs : List Int) (price : Int) : (costs zs price).length = zs.length := by simp [costs]
theorem costs_at {zs : List Int} {price : Int} {i : Nat} (h : i < zs.length) : (costs zs price)[i]? = some (zs.getD i 0 + price * ((i + 1 : Nat) : Int)) := by
  unfold costs; rw [List.getElem?_map, List.getElem?_range h]; rfl
theorem costs_in {zs : List Int} {price : Int} {i : Nat} (h : i < zs.length) : zs.getD i 0 + price * ((i + 1 : Nat) : Int) ∈ costs zs price := List.mem_of_getElem? (costs_at h)
theorem cost_of {zs : List Int} {price M : Int} {j : Nat} (h2 : ∀ a, a ∈ costs zs price → M ≤ a) (hj : (costs zs price)[j]? = some M) (hf : ∀ i, i < j → (costs zs price)[i]? ≠ some M) : CostAt zs price M (j + 1) := by
  have hl : j < zs.length := by have := (List.getElem?_eq_some_iff.mp hj).1; rwa [costs_len] at this
  rw [costs_at hl] at hj
  cases hj
  exact ⟨by omega, by omega, rfl, fun i hi => h2 _ (costs_in hi), fun i hi z => hf i (by omega) (by rw [costs_at (by omega), z])⟩
theorem cost_uniq {zs : List Int} {price c c' : Int} {m m' : Nat} (h : CostAt zs price c m) (h' : CostAt zs price c' m') : c = c' ∧ m = m' := by
  have e1 := h.le (m' - 1) (by have := h'.m1; have := h'.mn; omega)
  have e2 := h'.le (m - 1) (by have := h.m1; have := h.mn; omega)
  have := h.m1
  have := h'.m1
  rw [show m' - 1 + 1 = m' by omega] at e1
  rw [show m - 1 + 1 = m by omega] at e2
  have q1 := h.at_
  have q2 := h'.at_
  have ec : c = c' := by omega
  subst ec
  refine ⟨rfl, ?_⟩
  rcases Nat.lt_trichotomy m m' with z | z | z
  · exact absurd (by rw [show m - 1 + 1 = m by omega]; exact q1.symm) (h'.ne (m - 1) (by omega))
  · exact z
  · exact absurd (by rw [show m' - 1 + 1 = m' by omega]; exact q2.symm) (h.ne (m' - 1) (by omega))
end
end M31

set_option linter.all false
namespace M28
open M25 M31
section
variable {w : Nat → Nat → Int} {p : Int}
/-- the least cost at a price up to a place, and of it the fewest pieces -/
structure DL (w : Nat → Nat → Int) (p : Int) (t : Nat) (C : Int) (K : Nat) : Prop where
  ex : ∃ c, Path w K 0 t c ∧ C = c + p * (K : Int)
  le : ∀ (k : Nat) (c : Int), Path w k 0 t c → C < c + p * (k : Int) ∨ (C = c + p * (k : Int) ∧ K ≤ k)
theorem dl_zero (hp : 0 ≤ p) : DL w p 0 0 0 := by
  refine ⟨⟨0, ⟨rfl, rfl⟩, by simp⟩, fun k c h => ?_⟩
  have := path_le h
  have : k = 0 := by omega
  subst this
  rw [h.2]; right; simp
theorem mul_succ' (p : Int) (k : Nat) : p * ((k + 1 : Nat) : Int) = p * (k : Int) + p := by rw [Int.natCast_add, Int.mul_add]; simp
theorem dl_step {t : Nat} (ht : 0 < t) {g : Nat → Int} {h : Nat → Nat} (hd : ∀ q, q < t → DL w p q (g q) (h q)) {q0 : Nat} (hq : q0 < t)
    (hmin : ∀ q, q < t → g q0 + w q0 t + p < g q + w q t + p ∨ (g q0 + w q0 t + p = g q + w q t + p ∧ h q0 + 1 ≤ h q + 1)) : DL w p t (g q0 + w q0 t + p) (h q0 + 1) := by
  obtain ⟨c, h1, h2⟩ := (hd q0 hq).ex
  refine ⟨⟨c + w q0 t, path_snoc h1 hq, by rw [mul_succ']; omega⟩, fun k x hx => ?_⟩
  cases k with
  | zero => have := hx.1; omega
  | succ k =>
    obtain ⟨q, c', g1, g2, g3⟩ := path_unsnoc hx
    have h3 := (hd q g1).le k c' g2
    have h4 := hmin q g1
    have h5 := mul_succ' p k
    rw [h5]
    rcases h3 with h3 | ⟨h3, h3'⟩
    · left
      rcases h4 with h4 | ⟨h4, _⟩ <;> omega
    · rcases h4 with h4 | ⟨h4, h4'⟩
      · left; omega
      · right; exact ⟨by omega, by omega⟩
theorem dl_cost {ns ev : List Int} {C : Int} {K : Nat} (hn : 1 ≤ ns.length) (hE : Evens ns ev) (h : DL (sq ns) p ns.length C K) : CostAt ev p C K := by
  obtain ⟨c, h1, h2⟩ := h.ex
  have hK := path_le h1
  have hel := hE.1
  have K1 : 1 ≤ K := by
    rcases Nat.lt_or_ge K 1 with z | z
    · have : K = 0 := by omega
      subst this
      have := h1.1; omega
    · exact z
  have hL : Least (sq ns) K 0 ns.length c := ⟨h1, fun c' hc' => by
    rcases h.le K c' hc' with z | ⟨z, _⟩ <;> omega⟩
  have hat := ev_at hE (i := K - 1) (by omega)
  rw [show K - 1 + 1 = K by omega] at hat
  have hev := hat.uniq hL
  refine ⟨K1, by omega, by rw [hev]; exact h2, fun i hi => ?_, fun i hi z => ?_⟩
  · rcases h.le (i + 1) _ (ev_at hE (i := i) (by omega)).1 with q | ⟨q, _⟩ <;> omega
  · rcases h.le (i + 1) _ (ev_at hE (i := i) (by omega)).1 with q | ⟨q, q'⟩
    · omega
    · omega
theorem dl_least {ns : List Int} {C : Int} {K : Nat} (hn : 1 ≤ ns.length) (h : DL (sq ns) p ns.length C K) : Least (sq ns) K 0 ns.length (C - p * (K : Int)) ∧ 1 ≤ K ∧ K ≤ ns.length := by
  obtain ⟨c, h1, h2⟩ := h.ex
  have hK := path_le h1
  have K1 : 1 ≤ K := by
    rcases Nat.lt_or_ge K 1 with z | z
    · have : K = 0 := by omega
      subst this
      have := h1.1; omega
    · exact z
  have e : C - p * (K : Int) = c := by omega
  rw [e]
  exact ⟨⟨h1, fun c' hc' => by
    rcases h.le K c' hc' with z | ⟨z, _⟩ <;> omega⟩, K1, by omega⟩
end
end M28

set_option linter.all false
set_option Elab.async false
set_option maxRecDepth 100000
set_option maxHeartbeats 4000000
namespace L2
open PySem PySem.Spec PyProof.Rows
/-- the builtins' names are not bound -/
structure Bl (mg : Str → Option Value) : Prop where
  list : mg "list" = none
  enumerate : mg "enumerate" = none
  int : mg "int" = none
  sum : mg "sum" = none
  range : mg "range" = none
  sorted : mg "sorted" = none
  max : mg "max" = none
  min : mg "min" = none
  len : mg "len" = none
  repr : mg "repr" = none
  isinstance : mg "isinstance" = none
  zip : mg "zip" = none
  bool : mg "bool" = none
  tuple : mg "tuple" = none
  str : mg "str" = none
  dict : mg "dict" = none
  abs : mg "abs" = none
theorem boot_int : bootBuiltins "int" = some (.type "int") := by decide +kernel
theorem boot_list : bootBuiltins "list" = some (.type "list") := by decide +kernel
theorem boot_bool : bootBuiltins "bool" = some (.type "bool") := by decide +kernel
theorem boot_tuple : bootBuiltins "tuple" = some (.type "tuple") := by decide +kernel
theorem boot_max' : bootBuiltins "max" = some (.builtin "max") := by decide +kernel
theorem boot_min' : bootBuiltins "min" = some (.builtin "min") := by decide +kernel
theorem boot_len' : bootBuiltins "len" = some (.builtin "len") := by decide +kernel
theorem boot_isinstance' : bootBuiltins "isinstance" = some (.builtin "isinstance") := by decide +kernel
/-- the two numbers of a hand -/
structure Hand (d m : Int) : Prop where
  d0 : 0 ≤ d
  m0 : 0 ≤ m
  m1 : m < 2147483587
def HandAt (H : Hp) (h : Addr) : Prop := ∃ d m, H h = some (.lst [.int d, .int m]) ∧ Hand d m
theorem HandAt.same {H H' : Hp} {h : Addr} (s : Same H H') (x : HandAt H h) : HandAt H' h := let ⟨d, m, q, z⟩ := x; ⟨d, m, s _ _ q, z⟩
theorem HandAt.kp {H H' : Hp} {h : Addr} {S : List Addr} (s : Kp S H H') (n : h ∉ S) (x : HandAt H h) : HandAt H' h := let ⟨d, m, q, z⟩ := x; ⟨d, m, s _ _ n q, z⟩
theorem HandAt.ne {H : Hp} {h p : Addr} (x : HandAt H h) (hp : H p = none) : h ≠ p := let ⟨_, _, q, _⟩ := x; ne_of_none q hp
def sp_law_hand : Sp := fun vs H Q _ => ∃ cell k : Int, vs = [.int cell, .int k] ∧ 0 ≤ k ∧ k ≤ 100 ∧ ∀ p H', H p = none → Same H H' → HandAt H' p → Q (.ref p) H'
def sp_law_draw : Sp := fun vs H Q _ => ∃ (h : Addr) (lim : Int), vs = [.ref h, .int lim] ∧ HandAt H h ∧ 0 < lim ∧ lim < 2 ^ 200 ∧ ∀ g H', 0 ≤ g → g < lim → HandAt H' h → Kp [h] H H' → Q (.int g) H'
def sp_law_cells (K : PySem.W.Frag) : Sp := fun vs H Q _ => ∃ (a : Addr) (ns : List Int) (many : Int), vs = [.ref a, .int many] ∧ SqL K H a (ns.map V.int) ∧ ns.length ≤ 63 ∧ ∀ (D : Addr) (as : List Addr) (H2 : Hp), Same H H2 → H D = none → H2 D = some (.lst (as.map V.ref)) → as.length ≤ 64 →
  (∀ (j : Nat) (b : Addr), as[j]? = some b → ∃ c : Int, H2 b = some (.tup [.int j, .int c])) → Q (.ref D) H2
/-- the numbers of a row as the law draws it -/
structure RowN (ns : List Int) : Prop where
  ne : 1 ≤ ns.length
  le : ns.length ≤ 120
  nn : ∀ n ∈ ns, 0 ≤ n
  ub : ∀ n ∈ ns, n ≤ 1000000000000
/-- of the laws of squares: so many numbers -/
def sp_law_row : Sp := fun vs H Q _ => ∃ (h : Addr) (n : Nat), vs = [.ref h, .int n] ∧ HandAt H h ∧ 1 ≤ n ∧ n ≤ 120 ∧ ∀ (p : Addr) (ns : List Int) (H' : Hp), RowN ns → ns.length = n → HandAt H' h → Kp [h] H H' → H' p = some (.lst (ns.map V.int)) → p ≠ h → H p = none → Q (.ref p) H'
def sp_law_size : Sp := fun vs H Q _ => ∃ (h : Addr) (k most far : Int), vs = [.ref h, .int k, .int most, .int far] ∧ HandAt H h ∧ 1 ≤ most ∧ most ≤ 120 ∧ 1 ≤ far ∧ far ≤ 120 ∧ ∀ (n : Nat) (H' : Hp), 1 ≤ n → n ≤ 120 → HandAt H' h → Kp [h] H H' → Q (.int n) H'
end L2

namespace K
open PySem L2
def top (i : Nat) : Stmt := PySem.Challenge.pw_piecebounds_k28_least_costs_at_prices.main.body.getD i (.Pass ⟨0, 0, 0, 0⟩)
end K
set_option linter.all false
set_option Elab.async false
set_option maxRecDepth 100000
set_option maxHeartbeats 4000000
namespace K
open PySem L2
section
variable {C : Addr} {P : Program} {w : World} {K : PySem.W.Frag} {mg : Str → Option Value} {base : Heap} {f : Addr} {fd : FuncData}

abbrev s_law_hand : Stmt := top 9
theorem sc_law_hand : FnScope ["cell", "k", "digits"] ["cell", "k"] (defScope s_law_hand) := ⟨rfl, rfl, rfl, by decide +kernel, rfl, by decide +kernel, by decide +kernel⟩
theorem l_law_hand_digits : Loc (defScope s_law_hand) "digits" := Or.inl (by kernel_rfl)
theorem v_law_hand_cell : Vis (defScope s_law_hand) "cell" := Or.inl (by kernel_rfl)
theorem v_law_hand_digits : Vis (defScope s_law_hand) "digits" := Or.inl (by kernel_rfl)
theorem v_law_hand_k : Vis (defScope s_law_hand) "k" := Or.inl (by kernel_rfl)
def t_law_hand {cdv : Value} {A : Around} {outer : List Env} {s : Shared} {H : Hp} {E : XK} (B : Bl mg) (hr : Room 0 (A.deeper (PyProof.Rows.envOfC "_law_hand" (defScope s_law_hand) s.heap.objs.size f cdv))) :
    { t : TS // QB (cxOf CX0 P w K mg base ["cell", "k", "digits"] "_law_hand" (defScope s_law_hand) f cdv A outer s H E).nox (defBody s_law_hand) t } :=
  ⟨_, (qb_cons (qs_set (i := 2) sc_law_hand.nd rfl l_law_hand_digits (.inl rfl) qe_int)
    (qb_mid (qs_if (qt_cmp opGe (qv 0 rfl v_law_hand_cell) (qe_op opPow qe_int qe_int)) (qb_one (qs_set (i := 2) sc_law_hand.nd rfl l_law_hand_digits (.inl rfl) (qv 0 rfl v_law_hand_cell))) qb_nil)
    (qb_one (qs_ret (qe_lst (qa_cons (qv 2 rfl v_law_hand_digits) (qa_cons (qe_op opMod (qe_op opMul (qe_op opAdd (qe_op opAdd (qe_op opMod (qv 0 rfl v_law_hand_cell) qe_int) (qe_op opMul qe_int (qv 1 rfl v_law_hand_k))) qe_int) qe_int) qe_int) qa_nil)))))))⟩
abbrev s_law_draw : Stmt := top 10
theorem sc_law_draw : FnScope ["hand", "limit", "got"] ["hand", "limit"] (defScope s_law_draw) := ⟨rfl, rfl, rfl, by decide +kernel, rfl, by decide +kernel, by decide +kernel⟩
theorem l_law_draw_got : Loc (defScope s_law_draw) "got" := Or.inl (by kernel_rfl)
theorem v_law_draw_got : Vis (defScope s_law_draw) "got" := Or.inl (by kernel_rfl)
theorem v_law_draw_hand : Vis (defScope s_law_draw) "hand" := Or.inl (by kernel_rfl)
theorem v_law_draw_limit : Vis (defScope s_law_draw) "limit" := Or.inl (by kernel_rfl)
def t_law_draw {cdv : Value} {A : Around} {outer : List Env} {s : Shared} {H : Hp} {E : XK} (B : Bl mg) (hr : Room 0 (A.deeper (PyProof.Rows.envOfC "_law_draw" (defScope s_law_draw) s.heap.objs.size f cdv))) :
    { t : TS // QB (cxOf CX0 P w K mg base ["hand", "limit", "got"] "_law_draw" (defScope s_law_draw) f cdv A outer s H E).nox (defBody s_law_draw) t } :=
  ⟨_, (qb_cons (qs_if (qt_cmp opGt (ke_ix (K := K) rfl (qv 0 rfl v_law_draw_hand) qe_int (fun _ _ => rfl)) qe_int) (qb_cons (qs_set (i := 2) sc_law_draw.nd rfl l_law_draw_got (.inl rfl) (qe_op opMod (ke_ix (K := K) rfl (qv 0 rfl v_law_draw_hand) qe_int (fun _ _ => rfl)) (qv 1 rfl v_law_draw_limit)))
    (qb_cons (qs_asg (qe_op opFdiv (ke_ix (K := K) rfl (qv 0 rfl v_law_draw_hand) qe_int (fun _ _ => rfl)) (qv 1 rfl v_law_draw_limit)) (qg_sub (qv 0 rfl v_law_draw_hand) qe_int setM))
    (qb_one (qs_ret (qv 2 rfl v_law_draw_got))))) qb_nil)
    (qb_cons (qs_asg (qe_op opMod (qe_op opAdd (qe_op opAdd (qe_op opMul (ke_ix (K := K) rfl (qv 0 rfl v_law_draw_hand) qe_int (fun _ _ => rfl)) (ke_ix (K := K) rfl (qv 0 rfl v_law_draw_hand) qe_int (fun _ _ => rfl))) (qe_op opMul qe_int (ke_ix (K := K) rfl (qv 0 rfl v_law_draw_hand) qe_int (fun _ _ => rfl)))) qe_int) qe_int) (qg_sub (qv 0 rfl v_law_draw_hand) qe_int setM))
    (qb_one (qs_ret (qe_op opMod (qe_op opFdiv (ke_ix (K := K) rfl (qv 0 rfl v_law_draw_hand) qe_int (fun _ _ => rfl)) qe_int) (qv 1 rfl v_law_draw_limit))))))⟩
theorem pm : (0 : Int) < 2147483563 := by decide
theorem lt_hand {a : Int} : a % 2147483563 < 2147483587 := Int.lt_trans (Int.emod_lt_of_pos _ pm) (by decide)
theorem ok_law_hand (B : Bl mg) (F : Fun K "_law_hand" "_law_hand" s_law_hand f fd) : FnOk P w K mg base CX0 1 f fd ["cell", "k"] sp_law_hand := by
  refine F.okq sc_law_hand (fun vs H Q E h => ?_) (fun cdv A outer s H vs Q E hr h => ?_)
  · obtain ⟨c, k, rfl, _⟩ := h; rfl
  obtain ⟨c, k, rfl, h0, h1, q⟩ := h
  refine ⟨t_law_hand B hr, ?_⟩
  refine ⟨fun σ H' => H' = H ∧ ∃ d, 0 ≤ d ∧ σ = [some (.int c), some (.int k), some (.int d)], ?_, ?_⟩
  · refine ⟨⟨by decide, by decide, by decide⟩, dec2 (fun hc => ?_) (fun hc => ?_)⟩
    · exact ⟨rfl, c, Int.le_trans (by decide) hc, rfl⟩
    · exact ⟨rfl, 0, Int.le_refl 0, rfl⟩
  · rintro σ H' ⟨rfl, d, hd, rfl⟩
    refine ⟨pm, .inl ⟨by decide, by decide⟩, .inr ⟨by decide, by decide⟩, pm, ?_⟩
    refine i_newL (by show 2 ≤ sizeLine; decide) fun p H1 hp s1 e1 => q p H1 hp s1 ⟨_, _, e1, hd, Int.emod_nonneg _ (by decide), lt_hand⟩
theorem ok_law_draw (B : Bl mg) (F : Fun K "_law_draw" "_law_draw" s_law_draw f fd) : FnOk P w K mg base CX0 1 f fd ["hand", "limit"] sp_law_draw := by
  refine F.okq sc_law_draw (fun vs H Q E h => ?_) (fun cdv A outer s H vs Q E hr h => ?_)
  · obtain ⟨a, lim, rfl, _⟩ := h; rfl
  obtain ⟨a, lim, rfl, ⟨d, m, hH, hh⟩, l0, l1, q⟩ := h
  refine ⟨t_law_draw B hr, ?_⟩
  refine i_ixN 0 hH rfl rfl (dec2 (fun c => ?_) (fun c => ?_))
  · refine i_ixN 0 hH rfl rfl ⟨l0, ?_⟩
    refine i_ixN 0 hH rfl rfl ⟨⟨l0, l1⟩, ?_⟩
    refine i_set 0 hH rfl (by simp) fun H1 k1 e1 => ?_
    exact q _ _ (Int.emod_nonneg _ (by omega)) (Int.emod_lt_of_pos _ l0) ⟨_, _, e1, Int.ediv_nonneg hh.d0 (by omega), hh.m0, hh.m1⟩ k1
  · refine i_ixN 1 hH rfl rfl (i_ixN 1 hH rfl rfl ⟨.inl ⟨by have := hh.m0; omega, by have := hh.m1; omega⟩, ?_⟩)
    refine i_ixN 1 hH rfl rfl ⟨.inl ⟨by decide, by decide⟩, pm, ?_⟩
    refine i_set 1 hH rfl (by simp) fun H1 k1 e1 => ?_
    refine i_ixN 1 e1 rfl rfl ⟨⟨by decide, by decide⟩, l0, ?_⟩
    exact q _ _ (Int.emod_nonneg _ (by omega)) (Int.emod_lt_of_pos _ l0) ⟨_, _, e1, hh.d0, Int.emod_nonneg _ (by decide), lt_hand⟩ k1

abbrev s_law_cells : Stmt := top 11
theorem sc_law_cells : FnScope ["script", "many"] ["script", "many"] (defScope s_law_cells) := ⟨rfl, rfl, rfl, by decide +kernel, rfl, by decide +kernel, by decide +kernel⟩
theorem v_law_cells_many : Vis (defScope s_law_cells) "many" := Or.inl (by kernel_rfl)
theorem v_law_cells_script : Vis (defScope s_law_cells) "script" := Or.inl (by kernel_rfl)
theorem g_law_cells_enumerate : (defScope s_law_cells).names.lookup ("enumerate" : Str) = some NameKind.globalImplicit := by kernel_rfl
theorem g_law_cells_int : (defScope s_law_cells).names.lookup ("int" : Str) = some NameKind.globalImplicit := by kernel_rfl
theorem g_law_cells_list : (defScope s_law_cells).names.lookup ("list" : Str) = some NameKind.globalImplicit := by kernel_rfl
def t_law_cells {cdv : Value} {A : Around} {outer : List Env} {s : Shared} {H : Hp} {E : XK} (B : Bl mg) (hr : Room 0 (A.deeper (PyProof.Rows.envOfC "_law_cells" (defScope s_law_cells) s.heap.objs.size f cdv))) :
    { t : TS // QB (cxOf CX0 P w K mg base ["script", "many"] "_law_cells" (defScope s_law_cells) f cdv A outer s H E).nox (defBody s_law_cells) t } :=
  ⟨_, (qb_one (qs_ret (ke_enumL (K := K) rfl rfl g_law_cells_list B.list g_law_cells_enumerate B.enumerate (qa_cons (qe_op opAdd (ke_slice (K := K) rfl (qv 0 rfl v_law_cells_script) qo_none (qo_some (qv 1 rfl v_law_cells_many))) (qe_op opMul (qe_lst (qa_cons qe_int qa_nil)) (qe_cT callInt g_law_cells_int B.int boot_int (qa_cons (qe_cmp (kEqG (K := K) rfl hr) (qv 0 rfl v_law_cells_script) (qe_lst qa_nil)) qa_nil)))) qa_nil))))⟩
theorem cutV_ints (ns : List Int) (lo hi : Option Int) : cutV (ns.map V.int) lo hi = ((ns.drop (HT.sIx ns.length 0 lo)).take (HT.sIx ns.length ns.length hi - HT.sIx ns.length 0 lo)).map V.int := by
  unfold cutV
  rw [List.length_map, List.map_take, List.map_drop]
theorem ok_law_cells (B : Bl mg) (F : Fun K "_law_cells" "_law_cells" s_law_cells f fd) : FnOk P w K mg base CX0 1 f fd ["script", "many"] (sp_law_cells K) := by
  refine F.okq sc_law_cells (fun vs H Q E h => ?_) (fun cdv A outer s H vs Q E hr h => ?_)
  · obtain ⟨a, ns, many, rfl, _⟩ := h; rfl
  obtain ⟨a, ns, many, rfl, hS, h63, q⟩ := h
  refine ⟨t_law_cells B hr, ?_⟩
  refine i_sl hS fun p1 H1 hp1 s1 e1 => ?_
  refine i_newL (by show 1 ≤ sizeLine; decide) fun p2 H2 hp2 s2 e2 => ?_
  refine i_newL (by show 0 ≤ sizeLine; decide) fun p3 H3 hp3 s3 e3 => ?_
  refine i_eqI (ns := ns) (ms := []) (s3.seq (s2.seq (s1.seq hS))) (SqL.of e3) ?_
  rw [cutV_ints] at e1
  have hml : ((ns.drop (HT.sIx ns.length 0 none)).take (HT.sIx ns.length ns.length (some many) - HT.sIx ns.length 0 none)).length ≤ 63 := by
    rw [List.length_take, List.length_drop]; omega
  generalize (ns.drop (HT.sIx ns.length 0 none)).take (HT.sIx ns.length ns.length (some many) - HT.sIx ns.length 0 none) = ms at e1 hml
  refine i_rep1 (s3 _ _ e2) (by split <;> omega) (by split <;> omega) fun p4 H4 hp4 s4 e4 => ?_
  have hk : (List.replicate (if id (decide (ns = [])) = true then (1 : Int) else 0).toNat (0 : Int)).length ≤ 1 := by
    rw [List.length_replicate]; split <;> decide
  generalize List.replicate (if id (decide (ns = [])) = true then (1 : Int) else 0).toNat (0 : Int) = zs at e4 hk
  refine i_cat (s4 _ _ (s3 _ _ (s2 _ _ e1))) e4 (sz_of (by simp only [List.length_map]; omega)) fun p5 H5 hp5 s5 e5 => ?_
  rw [← List.map_append] at e5
  have hl : (ms ++ zs).length ≤ 64 := by rw [List.length_append]; omega
  generalize ms ++ zs = ts at e5 hl
  refine ⟨p5, _, rfl, SqL.of e5, fun D as H9 s9 hD0 hD hlen hpair => ?_⟩
  rw [List.length_map] at hlen
  refine q D as H9 (s1.trans (s2.trans (s3.trans (s4.trans (s5.trans s9))))) ((s1.trans (s2.trans (s3.trans (s4.trans s5)))).free hD0) hD (by omega) fun j b hb => ?_
  have hj : j < ts.length := by rw [← hlen]; exact (List.getElem?_eq_some_iff.mp hb).1
  obtain ⟨b', hb', z⟩ := hpair j (.int ts[j]) (by rw [List.getElem?_map, List.getElem?_eq_getElem hj]; rfl)
  rw [hb] at hb'
  cases hb'
  exact ⟨_, z⟩

end
end K

set_option linter.all false
set_option Elab.async false
set_option maxRecDepth 100000
set_option maxHeartbeats 4000000
namespace K
open PySem L2
section
variable {C : Addr} {P : Program} {w : World} {K : PySem.W.Frag} {mg : Str → Option Value} {base : Heap} {f : Addr} {fd : FuncData}

abbrev s_law_row : Stmt := top 12
theorem sc_law_row : FnScope ["hand", "many", "way", "wide", "k", "one", "found", "number"] ["hand", "many"] (defScope s_law_row) := ⟨rfl, rfl, rfl, by decide +kernel, rfl, by decide +kernel, by decide +kernel⟩
theorem l_law_row_found : Loc (defScope s_law_row) "found" := Or.inl (by kernel_rfl)
theorem l_law_row_k : Loc (defScope s_law_row) "k" := Or.inl (by kernel_rfl)
theorem l_law_row_number : Loc (defScope s_law_row) "number" := Or.inl (by kernel_rfl)
theorem l_law_row_one : Loc (defScope s_law_row) "one" := Or.inl (by kernel_rfl)
theorem l_law_row_way : Loc (defScope s_law_row) "way" := Or.inl (by kernel_rfl)
theorem l_law_row_wide : Loc (defScope s_law_row) "wide" := Or.inl (by kernel_rfl)
theorem v_law_row_found : Vis (defScope s_law_row) "found" := Or.inl (by kernel_rfl)
theorem v_law_row_hand : Vis (defScope s_law_row) "hand" := Or.inl (by kernel_rfl)
theorem v_law_row_k : Vis (defScope s_law_row) "k" := Or.inl (by kernel_rfl)
theorem v_law_row_many : Vis (defScope s_law_row) "many" := Or.inl (by kernel_rfl)
theorem v_law_row_number : Vis (defScope s_law_row) "number" := Or.inl (by kernel_rfl)
theorem v_law_row_one : Vis (defScope s_law_row) "one" := Or.inl (by kernel_rfl)
theorem v_law_row_way : Vis (defScope s_law_row) "way" := Or.inl (by kernel_rfl)
theorem v_law_row_wide : Vis (defScope s_law_row) "wide" := Or.inl (by kernel_rfl)
theorem g_law_row__law_draw : (defScope s_law_row).names.lookup ("_law_draw" : Str) = some NameKind.globalImplicit := by kernel_rfl
theorem g_law_row_max : (defScope s_law_row).names.lookup ("max" : Str) = some NameKind.globalImplicit := by kernel_rfl
theorem g_law_row_range : (defScope s_law_row).names.lookup ("range" : Str) = some NameKind.globalImplicit := by kernel_rfl
def t_law_row {cdv : Value} {A : Around} {outer : List Env} {s : Shared} {H : Hp} {E : XK} (B : Bl mg) (D_law_draw : Def P w K mg base 1 "_law_draw" ["hand", "limit"] sp_law_draw) (hr : Room 1 (A.deeper (PyProof.Rows.envOfC "_law_row" (defScope s_law_row) s.heap.objs.size f cdv))) :
    { t : TS // QB (cxOf CX0 P w K mg base ["hand", "many", "way", "wide", "k", "one", "found", "number"] "_law_row" (defScope s_law_row) f cdv A outer s H E).nox (defBody s_law_row) t } :=
  ⟨_, (qb_cons (qs_set (i := 2) sc_law_row.nd rfl l_law_row_way (.inl rfl) (qe_def D_law_draw hr (by decide) g_law_row__law_draw (qa_cons (qv 0 rfl v_law_row_hand) (qa_cons qe_int qa_nil))))
    (qb_cons (qs_set (i := 3) sc_law_row.nd rfl l_law_row_wide (.inl rfl) qe_int)
    (qb_mid (qs_for PassesOwn.never rfl (qi_r1 g_law_row_range B.range (qa_cons (qe_def D_law_draw hr (by decide) g_law_row__law_draw (qa_cons (qv 0 rfl v_law_row_hand) (qa_cons qe_int qa_nil))) qa_nil)) (qg_name (i := 4) sc_law_row.nd rfl l_law_row_k (.inl rfl)) (qb_one (qs_set (i := 3) sc_law_row.nd rfl l_law_row_wide (.inl rfl) (qe_op opMul (qv 3 rfl v_law_row_wide) qe_int))))
    (qb_cons (qs_set (i := 5) sc_law_row.nd rfl l_law_row_one (.inl rfl) (qe_def D_law_draw hr (by decide) g_law_row__law_draw (qa_cons (qv 0 rfl v_law_row_hand) (qa_cons qe_int qa_nil))))
    (qb_cons (qs_set (i := 6) sc_law_row.nd rfl l_law_row_found (.inl rfl) (qe_lst qa_nil))
    (qb_mid (qs_for PassesOwn.never rfl (qi_r1 g_law_row_range B.range (qa_cons (qv 1 rfl v_law_row_many) qa_nil)) (qg_name (i := 4) sc_law_row.nd rfl l_law_row_k (.inl rfl)) (qb_cons (qs_set (i := 7) sc_law_row.nd rfl l_law_row_number (.inl rfl) (qe_def D_law_draw hr (by decide) g_law_row__law_draw (qa_cons (qv 0 rfl v_law_row_hand) (qa_cons qe_int qa_nil))))
    (qb_mid (qs_if (qt_cmp (kEqG (K := K) rfl hr) (qv 2 rfl v_law_row_way) qe_int) (qb_one (qs_set (i := 7) sc_law_row.nd rfl l_law_row_number (.inl rfl) (qe_op opMod (qe_op opAdd (qe_op opMul (qe_def D_law_draw hr (by decide) g_law_row__law_draw (qa_cons (qv 0 rfl v_law_row_hand) (qa_cons (qe_op opPow qe_int qe_int) qa_nil))) (qe_op opPow qe_int qe_int)) (qe_def D_law_draw hr (by decide) g_law_row__law_draw (qa_cons (qv 0 rfl v_law_row_hand) (qa_cons (qe_op opPow qe_int qe_int) qa_nil)))) (qe_op opAdd (qv 3 rfl v_law_row_wide) qe_int)))) qb_nil)
    (qb_mid (qs_if (qt_cmp (kEqG (K := K) rfl hr) (qv 2 rfl v_law_row_way) qe_int) (qb_one (qs_set (i := 7) sc_law_row.nd rfl l_law_row_number (.inl rfl) (qe_op opFdiv (qe_op opMul (qv 5 rfl v_law_row_one) (qv 3 rfl v_law_row_wide)) qe_int))) qb_nil)
    (qb_mid (qs_if (qt_cmp (kEqG (K := K) rfl hr) (qv 2 rfl v_law_row_way) qe_int) (qb_one (qs_set (i := 7) sc_law_row.nd rfl l_law_row_number (.inl rfl) (qe_op opMul (qe_cB (kMax (K := K) rfl rfl) g_law_row_max B.max boot_max' (qa_cons qe_int (qa_cons (qe_op opSub (qv 7 rfl v_law_row_number) qe_int) qa_nil))) (qv 5 rfl v_law_row_one)))) qb_nil)
    (qb_mid (qs_if (qt_cmp (kEqG (K := K) rfl hr) (qv 2 rfl v_law_row_way) qe_int) (qb_one (qs_set (i := 7) sc_law_row.nd rfl l_law_row_number (.inl rfl) (qe_op opMul (qv 4 rfl v_law_row_k) (qv 5 rfl v_law_row_one)))) qb_nil)
    (qb_one (qs_ex (ke_m1 (K := K) rfl PySem.F.plainAttrs_list PySem.F.slot_list_append PySem.F.type_list_append mtApp (qv 6 rfl v_law_row_found) (qv 7 rfl v_law_row_number))))))))))
    (qb_mid (qs_if (qt_cmp (kEqG (K := K) rfl hr) (qv 2 rfl v_law_row_way) qe_int) (qb_one (qs_asg (qv 3 rfl v_law_row_wide) (qg_sub (qv 6 rfl v_law_row_found) (qe_def D_law_draw hr (by decide) g_law_row__law_draw (qa_cons (qv 0 rfl v_law_row_hand) (qa_cons (qv 1 rfl v_law_row_many) qa_nil))) setM))) qb_nil)
    (qb_one (qs_ret (qv 6 rfl v_law_row_found))))))))))⟩
theorem at2 {x y : V} {g : Int} (h0 : 0 ≤ g) (h1 : g < 2) : atI [x, y] g = some (if g = 0 then x else y) := by
  have : g = 0 ∨ g = 1 := by omega
  rcases this with rfl | rfl <;> rfl
theorem ten_le {i : Nat} (h : i ≤ 12) : (10 : Int) ^ i ≤ 1000000000000 := by
  have e : (10 : Nat) ^ i ≤ 10 ^ 12 := Nat.pow_le_pow_right (by decide) h
  have e2 : ((10 ^ i : Nat) : Int) ≤ ((10 ^ 12 : Nat) : Int) := Int.ofNat_le.mpr e
  rw [Int.natCast_pow] at e2
  exact Int.le_trans e2 (by decide)
theorem ten_pos (i : Nat) : (1 : Int) ≤ 10 ^ i := by
  have e : 1 ≤ (10 : Nat) ^ i := Nat.one_le_pow _ _ (by decide)
  have e2 : ((1 : Nat) : Int) ≤ ((10 ^ i : Nat) : Int) := Int.ofNat_le.mpr e
  rw [Int.natCast_pow] at e2
  exact e2
theorem ok_law_row (B : Bl mg) (D_law_draw : Def P w K mg base 1 "_law_draw" ["hand", "limit"] sp_law_draw) (F : Fun K "_law_row" "_law_row" s_law_row f fd) : FnOk P w K mg base CX0 2 f fd ["hand", "many"] sp_law_row := by
  refine F.okq sc_law_row (fun vs H Q E h => ?_) (fun cdv A outer s H vs Q E hr h => ?_)
  · obtain ⟨a, n, rfl, _⟩ := h; rfl
  obtain ⟨a, n, rfl, hh, n1, n2, q⟩ := h
  refine ⟨t_law_row B D_law_draw hr, ?_⟩
  refine ⟨a, 6, rfl, hh, by decide, by decide, fun way H1 w0 w1 hh1 k1 => ?_⟩
  refine ⟨fun σ H' => ∃ (wide : Int) (o4 : Option V), 1 ≤ wide ∧ wide ≤ 1000000000000 ∧ HandAt H' a ∧ Kp [a] H H' ∧ σ = [some (.ref a), some (.int n), some (.int way), some (.int wide), o4, none, none, none], ?_, ?_⟩
  · refine ⟨a, 13, rfl, hh1, by decide, by decide, fun g H2 g0 g1 hh2 k2 => ⟨⟨by omega, by omega⟩, ?_⟩⟩
    refine for_range (fun i σ H' => ∃ o4 : Option V, H' = H2 ∧ σ = [some (.ref a), some (.int n), some (.int way), some (.int (10 ^ i)), o4, none, none, none]) ?_ ?_ ?_
    · exact ⟨_, rfl, rfl⟩
    · rintro i σ H' hi ⟨o4, rfl, rfl⟩
      refine ⟨.inr ⟨by decide, by decide⟩, ?_⟩
      exact ⟨some (.int (0 + (i : Int))), rfl, by rw [Int.pow_succ]; rfl⟩
    · rintro σ H' ⟨o4, rfl, rfl⟩
      exact ⟨_, o4, ten_pos _, ten_le (by omega), hh2, k1.trans k2, rfl⟩
  rintro σ H2 ⟨wide, o4, wd0, wd1, hh2, k2, rfl⟩
  refine ⟨a, 30, rfl, hh2, by decide, by decide, fun one H3 on0 on1 hh3 k3 => ?_⟩
  refine i_newL (by show 0 ≤ sizeLine; decide) fun p H4 hp s4 e4 => ?_
  have np : p ≠ a := (hh3.ne hp).symm
  have kk4 : Kp [a] H H4 := (k2.trans k3).same s4
  have hp0 : H p = none := (k2.trans k3).free (by simpa using np) hp
  refine ⟨fun σ H' => ∃ (ns : List Int) (o4 o7 : Option V), ns.length = n ∧ (∀ z ∈ ns, 0 ≤ z ∧ z ≤ 1000000000000) ∧ HandAt H' a ∧ Kp [a] H H' ∧ H' p = some (.lst (ns.map V.int)) ∧ σ = [some (.ref a), some (.int n), some (.int way), some (.int wide), o4, some (.int one), some (.ref p), o7], ?_, ?_⟩
  · refine ⟨⟨by omega, by omega⟩, for_range (fun i σ H' => ∃ (ns : List Int) (o4 o7 : Option V), ns.length = i ∧ (∀ z ∈ ns, 0 ≤ z ∧ z ≤ 1000000000000) ∧ HandAt H' a ∧ Kp [a] H H' ∧ H' p = some (.lst (ns.map V.int)) ∧ σ = [some (.ref a), some (.int n), some (.int way), some (.int wide), o4, some (.int one), some (.ref p), o7]) ?_ ?_ ?_⟩
    · exact ⟨[], _, _, rfl, by simp, hh3.same s4, kk4, e4, rfl⟩
    · rintro i σ H5 hi ⟨ns, o4, o7, hl, hz, hh5, k5, e5, rfl⟩
      have hi' : i < n := by omega
      refine ⟨a, 4, rfl, hh5, by decide, by decide, fun g H6 g0 g1 hh6 k6 => ?_⟩
      have e6 := k6.one np e5
      have kk6 := k5.trans k6
      refine ⟨fun σ H' => ∃ number : Int, 0 ≤ number ∧ number ≤ 1000000000000 ∧ (way = 3 → number ≤ 3) ∧ HandAt H' a ∧ Kp [a] H H' ∧ H' p = some (.lst (ns.map V.int)) ∧ σ = [some (.ref a), some (.int n), some (.int way), some (.int wide), some (.int (0 + (i : Int))), some (.int one), some (.ref p), some (.int number)], ?_, ?_⟩
      · refine dec2 (fun c => ?_) (fun c => ?_)
        · refine ⟨⟨by decide, by decide, by decide⟩, a, 10000000, rfl, hh6, by decide, by decide, fun ga H7 ga0 ga1 hh7 k7 => ?_⟩
          refine ⟨⟨by decide, by decide, by decide⟩, .inr ⟨by decide, by decide⟩, ⟨by decide, by decide, by decide⟩, a, 10000000, rfl, hh7, by decide, by decide, fun gb H8 gb0 gb1 hh8 k8 => ?_⟩
          refine ⟨by omega, ?_⟩
          refine ⟨_, Int.emod_nonneg _ (by omega), ?_, fun z => by omega, hh8, (kk6.trans k7).trans k8, k8.one np (k7.one np e6), rfl⟩
          have := Int.emod_lt_of_pos (ga * 10 ^ Int.toNat 7 + gb) (show 0 < wide + 1 by omega)
          omega
        · exact ⟨g, g0, by omega, fun _ => by omega, hh6, kk6, e6, rfl⟩
      rintro σ H7 ⟨number, m0, m1, m3, hh7, k7, e7, rfl⟩
      refine ⟨fun σ H' => ∃ number : Int, 0 ≤ number ∧ number ≤ 1000000000000 ∧ (way = 3 → number ≤ 3) ∧ HandAt H' a ∧ Kp [a] H H' ∧ H' p = some (.lst (ns.map V.int)) ∧ σ = [some (.ref a), some (.int n), some (.int way), some (.int wide), some (.int (0 + (i : Int))), some (.int one), some (.ref p), some (.int number)], ?_, ?_⟩
      · refine dec2 (fun c => ?_) (fun c => ?_)
        · refine ⟨.inl ⟨by omega, by omega⟩, ⟨by decide, by decide⟩, ?_⟩
          have hm : 0 ≤ one * wide ∧ one * wide ≤ 29 * 1000000000000 := ⟨Int.mul_nonneg on0 (by omega), Int.mul_le_mul (by omega) wd1 (by omega) (by decide)⟩
          refine ⟨one * wide / 30, by omega, by omega, fun z => by omega, hh7, k7, e7, rfl⟩
        · exact ⟨number, m0, m1, m3, hh7, k7, e7, rfl⟩
      rintro σ H8 ⟨number, m0, m1, m3, hh8, k8, e8, rfl⟩
      refine ⟨fun σ H' => ∃ number : Int, 0 ≤ number ∧ number ≤ 1000000000000 ∧ HandAt H' a ∧ Kp [a] H H' ∧ H' p = some (.lst (ns.map V.int)) ∧ σ = [some (.ref a), some (.int n), some (.int way), some (.int wide), some (.int (0 + (i : Int))), some (.int one), some (.ref p), some (.int number)], ?_, ?_⟩
      · refine dec2 (fun c => ?_) (fun c => ?_)
        · have h3 := m3 c
          have hx : 0 ≤ max 0 (number - 2) ∧ max 0 (number - 2) ≤ 1 := by omega
          refine ⟨.inr ⟨by omega, by omega⟩, ?_⟩
          have hm : 0 ≤ max 0 (number - 2) * one ∧ max 0 (number - 2) * one ≤ 1 * 29 := ⟨Int.mul_nonneg hx.1 on0, Int.mul_le_mul hx.2 (by omega) on0 (by decide)⟩
          refine ⟨max 0 (number - 2) * one, hm.1, by omega, hh8, k8, e8, rfl⟩
        · exact ⟨number, m0, m1, hh8, k8, e8, rfl⟩
      rintro σ H9 ⟨number, m0, m1, hh9, k9, e9, rfl⟩
      refine ⟨fun σ H' => ∃ number : Int, 0 ≤ number ∧ number ≤ 1000000000000 ∧ HandAt H' a ∧ Kp [a] H H' ∧ H' p = some (.lst (ns.map V.int)) ∧ σ = [some (.ref a), some (.int n), some (.int way), some (.int wide), some (.int (0 + (i : Int))), some (.int one), some (.ref p), some (.int number)], ?_, ?_⟩
      · refine dec2 (fun c => ?_) (fun c => ?_)
        · refine ⟨.inr ⟨by omega, by omega⟩, ?_⟩
          have hm : 0 ≤ (0 + (i : Int)) * one ∧ (0 + (i : Int)) * one ≤ 119 * 29 := ⟨Int.mul_nonneg (by omega) on0, Int.mul_le_mul (by omega) (by omega) on0 (by decide)⟩
          refine ⟨(0 + (i : Int)) * one, by omega, by omega, hh9, k9, e9, rfl⟩
        · exact ⟨number, m0, m1, hh9, k9, e9, rfl⟩
      rintro σ H10 ⟨number, m0, m1, hh10, k10, e10, rfl⟩
      refine ⟨i_tyL e10, i_appI e10 (by omega) fun H11 k11 e11 => ?_⟩
      refine ⟨ns ++ [number], _, _, by simp [hl], fun z hz' => ?_, hh10.kp k11 (by simpa using Ne.symm np), k10.new k11 hp0, e11, rfl⟩
      rcases List.mem_append.mp hz' with h | h
      · exact hz z h
      · have : z = number := by simpa using h
        subst this; exact ⟨m0, m1⟩
    · rintro σ H5 h
      obtain ⟨ns, o4, o7, hl, r⟩ := h
      exact ⟨ns, o4, o7, by omega, r⟩
  rintro σ H5 ⟨ns, o4, o7, hl, hz, hh5, k5, e5, rfl⟩
  have fin : ∀ (ms : List Int) (H' : Hp), ms.length = n → (∀ z ∈ ms, 0 ≤ z ∧ z ≤ 1000000000000) → HandAt H' a → Kp [a] H H' → H' p = some (.lst (ms.map V.int)) → Q (.ref p) H' := fun ms H' h1 h2 h3 h4 h5 =>
    q p ms H' ⟨by omega, by omega, fun z hz => (h2 z hz).1, fun z hz => (h2 z hz).2⟩ h1 h3 h4 h5 np hp0
  refine ⟨fun σ H' => ∃ ms : List Int, ms.length = n ∧ (∀ z ∈ ms, 0 ≤ z ∧ z ≤ 1000000000000) ∧ HandAt H' a ∧ Kp [a] H H' ∧ H' p = some (.lst (ms.map V.int)) ∧ σ = [some (.ref a), some (.int n), some (.int way), some (.int wide), o4, some (.int one), some (.ref p), o7], ?_, ?_⟩
  · refine dec2 (fun c => ?_) (fun c => ?_)
    · refine ⟨a, n, rfl, hh5, by omega, by omega, fun j H6 j0 j1 hh6 k6 => ?_⟩
      have e6 := k6.one np e5
      refine i_set j.toNat e6 (by omega) (by rw [List.length_map]; omega) fun H7 k7 e7 => ?_
      refine ⟨ns.set j.toNat wide, by simp [hl], fun z hz' => ?_, hh6.kp k7 (by simpa using Ne.symm np), (k5.trans k6).new k7 hp0, ?_, rfl⟩
      · rcases List.mem_or_eq_of_mem_set hz' with hz' | rfl
        · exact hz z hz'
        · exact ⟨by omega, wd1⟩
      · rw [e7, List.map_set]
    · exact ⟨ns, hl, hz, hh5, k5, e5, rfl⟩
  rintro σ H6 ⟨ms, hl, hz, hh6, k6, e6, rfl⟩
  exact fin ms H6 hl hz hh6 k6 e6

abbrev s_law_size : Stmt := top 13
theorem sc_law_size : FnScope ["hand", "k", "most", "far", "more", "size"] ["hand", "k", "most", "far"] (defScope s_law_size) := ⟨rfl, rfl, rfl, by decide +kernel, rfl, by decide +kernel, by decide +kernel⟩
theorem l_law_size_more : Loc (defScope s_law_size) "more" := Or.inl (by kernel_rfl)
theorem l_law_size_size : Loc (defScope s_law_size) "size" := Or.inl (by kernel_rfl)
theorem v_law_size_far : Vis (defScope s_law_size) "far" := Or.inl (by kernel_rfl)
theorem v_law_size_hand : Vis (defScope s_law_size) "hand" := Or.inl (by kernel_rfl)
theorem v_law_size_k : Vis (defScope s_law_size) "k" := Or.inl (by kernel_rfl)
theorem v_law_size_more : Vis (defScope s_law_size) "more" := Or.inl (by kernel_rfl)
theorem v_law_size_most : Vis (defScope s_law_size) "most" := Or.inl (by kernel_rfl)
theorem v_law_size_size : Vis (defScope s_law_size) "size" := Or.inl (by kernel_rfl)
theorem g_law_size__law_draw : (defScope s_law_size).names.lookup ("_law_draw" : Str) = some NameKind.globalImplicit := by kernel_rfl
def t_law_size {cdv : Value} {A : Around} {outer : List Env} {s : Shared} {H : Hp} {E : XK} (B : Bl mg) (D_law_draw : Def P w K mg base 1 "_law_draw" ["hand", "limit"] sp_law_draw) (hr : Room 1 (A.deeper (PyProof.Rows.envOfC "_law_size" (defScope s_law_size) s.heap.objs.size f cdv))) :
    { t : TS // QB (cxOf CX0 P w K mg base ["hand", "k", "most", "far", "more", "size"] "_law_size" (defScope s_law_size) f cdv A outer s H E).nox (defBody s_law_size) t } :=
  ⟨_, (qb_cons (qs_if (QW.pt (qw_and (qt_cmp (kEqG (K := K) rfl hr) (qv 1 rfl v_law_size_k) qe_int) (qw_and1 (qt_cmp (kEqG (K := K) rfl hr) (qe_def D_law_draw hr (by decide) g_law_size__law_draw (qa_cons (qv 0 rfl v_law_size_hand) (qa_cons qe_int qa_nil))) qe_int)))) (qb_cons (qs_set (i := 4) sc_law_size.nd rfl l_law_size_more (.inl rfl) (qe_op opAdd qe_int (qe_def D_law_draw hr (by decide) g_law_size__law_draw (qa_cons (qv 0 rfl v_law_size_hand) (qa_cons (qv 3 rfl v_law_size_far) qa_nil)))))
    (qb_one (qs_ret (ke_ix (K := K) rfl (qe_lst (qa_cons (qv 3 rfl v_law_size_far) (qa_cons (qv 4 rfl v_law_size_more) qa_nil))) (qe_def D_law_draw hr (by decide) g_law_size__law_draw (qa_cons (qv 0 rfl v_law_size_hand) (qa_cons qe_int qa_nil))) (fun _ _ => rfl))))) qb_nil)
    (qb_cons (qs_set (i := 5) sc_law_size.nd rfl l_law_size_size (.inl rfl) (qe_def D_law_draw hr (by decide) g_law_size__law_draw (qa_cons (qv 0 rfl v_law_size_hand) (qa_cons qe_int qa_nil))))
    (qb_one (qs_ret (qe_op opAdd qe_int (qe_def D_law_draw hr (by decide) g_law_size__law_draw (qa_cons (qv 0 rfl v_law_size_hand) (qa_cons (ke_ix (K := K) rfl (qe_lst (qa_cons qe_int (qa_cons qe_int (qa_cons (qv 2 rfl v_law_size_most) qa_nil)))) (qv 5 rfl v_law_size_size) (fun _ _ => rfl)) qa_nil))))))))⟩
theorem at3 {x y z : V} {g : Int} (h0 : 0 ≤ g) (h1 : g < 3) : atI [x, y, z] g = some (if g = 0 then x else if g = 1 then y else z) := by
  have : g = 0 ∨ g = 1 ∨ g = 2 := by omega
  rcases this with rfl | rfl | rfl <;> rfl
theorem ok_law_size (B : Bl mg) (D_law_draw : Def P w K mg base 1 "_law_draw" ["hand", "limit"] sp_law_draw) (F : Fun K "_law_size" "_law_size" s_law_size f fd) : FnOk P w K mg base CX0 2 f fd ["hand", "k", "most", "far"] sp_law_size := by
  refine F.okq sc_law_size (fun vs H Q E h => ?_) (fun cdv A outer s H vs Q E hr h => ?_)
  · obtain ⟨a, k, m, fr, rfl, _⟩ := h; rfl
  obtain ⟨a, k, m, fr, rfl, hh, m0, m1, f0, f1, q⟩ := h
  refine ⟨t_law_size B D_law_draw hr, ?_⟩
  have fin : ∀ (z : Int) (H' : Hp), 1 ≤ z → z ≤ 120 → HandAt H' a → Kp [a] H H' → Q (.int z) H' := fun z H' h1 h2 h3 h4 => by
    have e : z = ((z.toNat : Nat) : Int) := by omega
    rw [e]; exact q _ H' (by omega) (by omega) h3 h4
  have lim : ∀ g : Int, 0 ≤ g → g < 3 → ∃ l : Int, (if g = 0 then V.int 4 else if g = 1 then V.int 8 else V.int m) = .int l ∧ 1 ≤ l ∧ l ≤ 120 := fun g g0 g1 => by
    by_cases z : g = 0
    · exact ⟨4, by rw [if_pos z], by decide, by decide⟩
    · by_cases z1 : g = 1
      · exact ⟨8, by rw [if_neg z, if_pos z1], by decide, by decide⟩
      · exact ⟨m, by rw [if_neg z, if_neg z1], m0, m1⟩
  refine dec2 (fun c => ⟨a, 8, rfl, hh, by decide, by decide, fun g H1 g0 g1 hh1 k1 => dec2 (fun c2 => ?_) (fun c2 => ?_)⟩) (fun c => bF ?_)
  · refine ⟨a, fr, rfl, hh1, by omega, by omega, fun g2 H2 g20 g21 hh2 k2 => ?_⟩
    refine i_newL (by show 2 ≤ sizeLine; decide) fun p3 H3 hp3 s3 e3 => ?_
    refine ⟨a, 2, rfl, hh2.same s3, by decide, by decide, fun g4 H4 g40 g41 hh4 k4 => ?_⟩
    have n3 : p3 ≠ a := (hh2.ne hp3).symm
    refine i_ix (.inl (SqL.of (k4.one n3 e3))) (at2 g40 g41) ?_
    have kk : Kp [a] H H4 := ((k1.trans k2).same s3).trans k4
    by_cases z : g4 = 0
    · rw [if_pos z]; exact fin _ _ f0 f1 hh4 kk
    · rw [if_neg z]; exact fin _ _ (by omega) (by omega) hh4 kk
  · refine ⟨a, 3, rfl, hh1, by decide, by decide, fun g2 H2 g20 g21 hh2 k2 => ?_⟩
    refine i_newL (by show 3 ≤ sizeLine; decide) fun p3 H3 hp3 s3 e3 => ?_
    obtain ⟨l, el, l0, l1⟩ := lim g2 g20 g21
    refine i_ix (.inl (SqL.of e3)) ((at3 g20 g21).trans (congrArg some el)) ?_
    refine ⟨a, l, rfl, hh2.same s3, by omega, by omega, fun g4 H4 g40 g41 hh4 k4 => ?_⟩
    exact fin _ _ (by omega) (by omega) hh4 (((k1.trans k2).same s3).trans k4)
  · refine ⟨a, 3, rfl, hh, by decide, by decide, fun g2 H2 g20 g21 hh2 k2 => ?_⟩
    refine i_newL (by show 3 ≤ sizeLine; decide) fun p3 H3 hp3 s3 e3 => ?_
    obtain ⟨l, el, l0, l1⟩ := lim g2 g20 g21
    refine i_ix (.inl (SqL.of e3)) ((at3 g20 g21).trans (congrArg some el)) ?_
    refine ⟨a, l, rfl, hh2.same s3, by omega, by omega, fun g4 H4 g40 g41 hh4 k4 => ?_⟩
    exact fin _ _ (by omega) (by omega) hh4 ((k2.same s3).trans k4)

end
end K

set_option linter.all false
set_option Elab.async false
set_option maxRecDepth 100000
set_option maxHeartbeats 4000000
namespace K
open PySem L2
section
variable {C : Addr} {P : Program} {w : World} {K : PySem.W.Frag} {mg : Str → Option Value} {base : Heap} {f : Addr} {fd : FuncData}

/-- a list of lists of ints, each one of its own -/
structure LL (H : Hp) (p : Addr) (ps : List Addr) (pss : List (List Int)) : Prop where
  at_ : H p = some (.lst (ps.map V.ref))
  nd : ps.Nodup
  np : p ∉ ps
  it : Paired (fun a ns => H a = some (.lst (List.map V.int ns))) ps pss
theorem pair_imp {α β : Type} {F G : α → β → Prop} : ∀ {l : List α} {m : List β}, Paired F l m → (∀ a ∈ l, ∀ b, F a b → G a b) → Paired G l m
  | _, _, .nil, _ => .nil
  | _, _, .cons r t, f => .cons (f _ List.mem_cons_self _ r) (pair_imp t fun a ha => f a (List.mem_cons_of_mem _ ha))
theorem pair_snoc {α β : Type} {F : α → β → Prop} {a : α} {b : β} (h : F a b) : ∀ {l : List α} {m : List β}, Paired F l m → Paired F (l ++ [a]) (m ++ [b])
  | _, _, .nil => .cons h .nil
  | _, _, .cons r t => .cons r (pair_snoc h t)
theorem pair_some {α β : Type} {F : α → β → Prop} : ∀ {l : List α} {m : List β}, Paired F l m → ∀ {a : α}, a ∈ l → ∃ b, F a b
  | _, _, .cons r t, a, h => by
    rcases List.mem_cons.mp h with rfl | h
    · exact ⟨_, r⟩
    · exact pair_some t h
section
variable {H H' : Hp} {p : Addr} {ps S : List Addr} {pss : List (List Int)}
theorem LL.same (s : Same H H') (h : LL H p ps pss) : LL H' p ps pss := ⟨s _ _ h.at_, h.nd, h.np, pair_imp h.it fun a ha b e => s _ _ e⟩
theorem LL.len (h : LL H p ps pss) : ps.length = pss.length := Paired.length h.it
end
abbrev zs (cs : List Nat) : List Int := cs.map fun (n : Nat) => (n : Int)
theorem ref_at {as : List Addr} {i : Nat} {x : V} (h : (as.map V.ref)[i]? = some x) : ∃ b, as[i]? = some b ∧ x = .ref b := by
  rw [List.getElem?_map] at h
  cases e : as[i]? with
  | none => rw [e] at h; cases h
  | some b => rw [e] at h; cases h; exact ⟨b, rfl, rfl⟩
theorem pair_get {α β : Type} {F : α → β → Prop} {l : List α} {m : List β} (h : Paired F l m) {i : Nat} {a : α} (ha : l[i]? = some a) : ∃ b, m[i]? = some b ∧ F a b := by
  have hl := Paired.length h
  have hi := (List.getElem?_eq_some_iff.mp ha).1
  have hi2 : i < m.length := by omega
  exact ⟨m[i], List.getElem?_eq_getElem hi2, paired_at h i ha (List.getElem?_eq_getElem hi2)⟩

theorem pair_last {α β : Type} {F : α → β → Prop} {a : α} {b : β} : ∀ {l : List α} {m : List β}, Paired F (l ++ [a]) (m ++ [b]) → F a b ∧ Paired F l m
  | [], [], .cons r .nil => ⟨r, .nil⟩
  | [], _ :: m, .cons r t => by have := Paired.length t; simp at this
  | _ :: l, [], .cons r t => by have := Paired.length t; simp at this
  | _ :: l, _ :: m, .cons r t => let ⟨h1, h2⟩ := pair_last t; ⟨h1, .cons r h2⟩

theorem cut_init (xs : List V) (x : V) : cutV (xs ++ [x]) none (some (-1)) = xs := by
  unfold cutV
  have e1 : HT.sIx (xs ++ [x]).length 0 none = 0 := rfl
  have e2 : HT.sIx (xs ++ [x]).length (xs ++ [x]).length (some (-1)) = xs.length := by
    unfold HT.sIx
    simp only [List.length_append, List.length_cons, List.length_nil]
    rw [if_pos (by decide)]
    omega
  rw [e1, e2, List.drop_zero, Nat.sub_zero, List.take_left' rfl]

abbrev s_sums_ahead : Stmt := top 1
theorem sc_sums_ahead : FnScope ["row", "sums", "number"] ["row"] (defScope s_sums_ahead) := ⟨rfl, rfl, rfl, by decide +kernel, rfl, by decide +kernel, by decide +kernel⟩
theorem l_sums_ahead_number : Loc (defScope s_sums_ahead) "number" := Or.inl (by kernel_rfl)
theorem l_sums_ahead_sums : Loc (defScope s_sums_ahead) "sums" := Or.inl (by kernel_rfl)
theorem v_sums_ahead_number : Vis (defScope s_sums_ahead) "number" := Or.inl (by kernel_rfl)
theorem v_sums_ahead_row : Vis (defScope s_sums_ahead) "row" := Or.inl (by kernel_rfl)
theorem v_sums_ahead_sums : Vis (defScope s_sums_ahead) "sums" := Or.inl (by kernel_rfl)
def t_sums_ahead {cdv : Value} {A : Around} {outer : List Env} {s : Shared} {H : Hp} {E : XK} (B : Bl mg) (hr : Room 0 (A.deeper (PyProof.Rows.envOfC "sums_ahead" (defScope s_sums_ahead) s.heap.objs.size f cdv))) :
    { t : TS // QB (cxOf CX0 P w K mg base ["row", "sums", "number"] "sums_ahead" (defScope s_sums_ahead) f cdv A outer s H E).nox (defBody s_sums_ahead) t } :=
  ⟨_, (qb_cons (qs_set (i := 1) sc_sums_ahead.nd rfl l_sums_ahead_sums (.inl rfl) (qe_lst (qa_cons qe_int qa_nil)))
    (qb_mid (qs_for PassesOwn.never rfl (ki_list (K := K) rfl (qv 0 rfl v_sums_ahead_row)) (qg_name (i := 2) sc_sums_ahead.nd rfl l_sums_ahead_number (.inl rfl)) (qb_one (qs_ex (ke_m1 (K := K) rfl PySem.F.plainAttrs_list PySem.F.slot_list_append PySem.F.type_list_append mtApp (qv 1 rfl v_sums_ahead_sums) (qe_op opAdd (ke_ix (K := K) rfl (qv 1 rfl v_sums_ahead_sums) (qe_un unNeg qe_int) (fun _ _ => rfl)) (qv 2 rfl v_sums_ahead_number))))))
    (qb_one (qs_ret (qv 1 rfl v_sums_ahead_sums)))))⟩
open M25 in
def sp_sums_ahead : Sp := fun vs H Q _ => ∃ (r : Addr) (ns : List Int), vs = [.ref r] ∧ H r = some (.lst (ns.map V.int)) ∧ ns.length ≤ 1000 ∧ ∀ (p : Addr) (H' : Hp), H p = none → Same H H' → H' p = some (.lst ((pre ns (ns.length + 1)).map V.int)) → Q (.ref p) H'
open M25 in
theorem pre_map (ns : List Int) (k : Nat) : (pre ns (k + 1)).map V.int = (pre ns k).map V.int ++ [V.int (S ns k)] := by rw [pre_succ, List.map_append]; rfl
open M25 in
theorem ok_sums_ahead (B : Bl mg) (F : Fun K "sums_ahead" "sums_ahead" s_sums_ahead f fd) : FnOk P w K mg base CX0 1 f fd ["row"] sp_sums_ahead := by
  refine F.okq sc_sums_ahead (fun vs H Q E h => ?_) (fun cdv A outer s H vs Q E hr h => ?_)
  · obtain ⟨r, ns, rfl, _⟩ := h; rfl
  obtain ⟨r, ns, rfl, hr0, hle, q⟩ := h
  refine ⟨t_sums_ahead B  hr, ?_⟩
  refine i_newL (by show 1 ≤ sizeLine; decide) fun p H1 hp s1 e1 => ?_
  refine ⟨fun σ H' => Same H H' ∧ H' p = some (.lst ((pre ns (ns.length + 1)).map V.int)) ∧ ∃ o, σ = [some (.ref r), some (.ref p), o], ?_, ?_⟩
  · refine ⟨⟨_, SqL.of (s1 _ _ hr0)⟩, for_list (xs := ns.map V.int) (fun i σ H' => Same H H' ∧ H' p = some (.lst ((pre ns (i + 1)).map V.int)) ∧ ∃ o, σ = [some (.ref r), some (.ref p), o]) ?_ ?_ ?_ ?_⟩
    · refine ⟨s1, ?_, _, rfl⟩
      rw [e1, pre_map, S_zero]; rfl
    · rintro i σ H' _ ⟨s', _⟩
      exact SqL.of (s' _ _ hr0)
    · rintro i x σ H2 hx ⟨s2, e2, o, rfl⟩
      obtain ⟨z, rfl, hz, _⟩ := vints_at hx
      have hi : i < ns.length := (List.getElem?_eq_some_iff.mp hz).1
      have e2' := e2
      rw [pre_map] at e2'
      refine ⟨i_tyL e2, i_ix (.inl (SqL.of e2')) (atI_last _ _) ?_⟩
      refine i_appI e2 (by rw [pre_len]; omega) fun H3 k3 e3 => ?_
      refine ⟨s2.new k3 hp, ?_, _, rfl⟩
      rw [e3, pre_succ ns (i + 1), S_succ hz]
    · rintro σ H' ⟨s', e', o⟩
      rw [List.length_map] at e'
      exact ⟨s', e', o⟩
  · rintro σ H' ⟨s', e', o, rfl⟩
    exact q p H' hp s' e'

end
end K

set_option linter.all false
set_option Elab.async false
set_option maxRecDepth 100000
set_option maxHeartbeats 4000000
namespace K
open PySem L2
section
variable {C : Addr} {P : Program} {w : World} {K : PySem.W.Frag} {mg : Str → Option Value} {base : Heap} {f : Addr} {fd : FuncData}

abbrev s_even_table : Stmt := top 4
theorem sc_even_table : FnScope ["row", "most", "ahead", "table", "left", "fewer"] ["row", "most"] (defScope s_even_table) := ⟨rfl, rfl, rfl, by decide +kernel, rfl, by decide +kernel, by decide +kernel⟩
theorem l_even_table_ahead : Loc (defScope s_even_table) "ahead" := Or.inr (by kernel_rfl)
theorem l_even_table_fewer : Loc (defScope s_even_table) "fewer" := Or.inr (by kernel_rfl)
theorem l_even_table_left : Loc (defScope s_even_table) "left" := Or.inl (by kernel_rfl)
theorem l_even_table_table : Loc (defScope s_even_table) "table" := Or.inl (by kernel_rfl)
theorem v_even_table_ahead : Vis (defScope s_even_table) "ahead" := Or.inr (Or.inl (by kernel_rfl))
theorem v_even_table_fewer : Vis (defScope s_even_table) "fewer" := Or.inr (Or.inl (by kernel_rfl))
theorem v_even_table_left : Vis (defScope s_even_table) "left" := Or.inl (by kernel_rfl)
theorem v_even_table_most : Vis (defScope s_even_table) "most" := Or.inl (by kernel_rfl)
theorem v_even_table_row : Vis (defScope s_even_table) "row" := Or.inl (by kernel_rfl)
theorem v_even_table_table : Vis (defScope s_even_table) "table" := Or.inl (by kernel_rfl)
theorem g_even_table_len : (defScope s_even_table).names.lookup ("len" : Str) = some NameKind.globalImplicit := by kernel_rfl
theorem g_even_table_range : (defScope s_even_table).names.lookup ("range" : Str) = some NameKind.globalImplicit := by kernel_rfl
theorem g_even_table_sums_ahead : (defScope s_even_table).names.lookup ("sums_ahead" : Str) = some NameKind.globalImplicit := by kernel_rfl
def t_even_table {cdv : Value} {A : Around} {outer : List Env} {s : Shared} {H : Hp} {E : XK} (B : Bl mg) (D_sums_ahead : Def P w K mg base 1 "sums_ahead" ["row"] sp_sums_ahead) (hr : Room 1 (A.deeper (PyProof.Rows.envOfC "even_table" (defScope s_even_table) s.heap.objs.size f cdv))) :
    { t : TS // QB (cxOf CX0 P w K mg base ["row", "most", "ahead", "table", "left", "fewer"] "even_table" (defScope s_even_table) f cdv A outer s H E).nox (defBody s_even_table) t } :=
  ⟨_, (qb_cons (qs_set (i := 2) sc_even_table.nd rfl l_even_table_ahead (.inl rfl) (qe_def D_sums_ahead hr (by decide) g_even_table_sums_ahead (qa_cons (qv 0 rfl v_even_table_row) qa_nil)))
    (qb_cons (qs_set (i := 3) sc_even_table.nd rfl l_even_table_table (.inl rfl) (qe_lst (qa_cons (qe_lst qa_nil) (qa_cons (qe_cp ["before", "ahead"] [none, some 2] rfl (ki_list (K := K) rfl (ke_slice (K := K) rfl (qv 2 rfl v_even_table_ahead) qo_none (qo_some (qe_un unNeg qe_int)))) (fun _ _ _ _ _ _ => (qg_name (i := 0) (show (["before", "ahead"] : List Str).Nodup by decide +kernel) rfl (by first | exact Or.inl rfl | exact Or.inr rfl) (by first | exact .inl rfl | exact .inr rfl))) (fun _ _ _ _ _ _ => qif_nil) (fun _ _ _ _ _ _ => (qe_op opPow (qe_op opSub (ke_ix (K := K) rfl (qv 1 rfl (by first | exact Or.inl rfl | exact Or.inr (Or.inl rfl) | exact Or.inr (Or.inr rfl))) (qe_un unNeg qe_int) (fun _ _ => rfl)) (qv 0 rfl (by first | exact Or.inl rfl | exact Or.inr (Or.inl rfl) | exact Or.inr (Or.inr rfl)))) qe_int))) qa_nil))))
    (qb_mid (qs_for PassesOwn.never rfl (qi_r2 g_even_table_range B.range (qa_cons qe_int (qa_cons (qe_op opAdd (qv 1 rfl v_even_table_most) qe_int) qa_nil))) (qg_name (i := 4) sc_even_table.nd rfl l_even_table_left (.inl rfl)) (qb_cons (qs_set (i := 5) sc_even_table.nd rfl l_even_table_fewer (.inl rfl) (ke_ix (K := K) rfl (qv 3 rfl v_even_table_table) (qe_op opSub (qv 4 rfl v_even_table_left) qe_int) (fun _ _ => rfl)))
    (qb_one (qs_ex (ke_m1 (K := K) rfl PySem.F.plainAttrs_list PySem.F.slot_list_append PySem.F.type_list_append mtApp (qv 3 rfl v_even_table_table) (qe_cpN ["begin", "fewer", "ahead"] [none, some 5, some 2] rfl (qi_r1 g_even_table_range B.range (qa_cons (qe_op opSub (qe_cB (kLen (K := K) rfl) g_even_table_len B.len boot_len' (qa_cons (qv 5 rfl v_even_table_fewer) qa_nil)) qe_int) qa_nil)) (fun _ _ _ _ _ _ => (qg_name (i := 0) (show (["begin", "fewer", "ahead"] : List Str).Nodup by decide +kernel) rfl (by first | exact Or.inl rfl | exact Or.inr rfl) (by first | exact .inl rfl | exact .inr rfl))) (fun _ _ _ _ _ _ => qif_nil) (fun _ _ _ _ _ _ => (qe_cB (kMin (K := K) rfl rfl) rfl B.min boot_min' (qa_cons (qe_cp ["end", "ahead", "begin", "fewer"] [none, some 2, some 0, some 1] rfl (qi_r2 rfl B.range (qa_cons (qe_op opAdd (qv 0 rfl (by first | exact Or.inl rfl | exact Or.inr (Or.inl rfl) | exact Or.inr (Or.inr rfl))) qe_int) (qa_cons (qe_cB (kLen (K := K) rfl) rfl B.len boot_len' (qa_cons (qv 1 rfl (by first | exact Or.inl rfl | exact Or.inr (Or.inl rfl) | exact Or.inr (Or.inr rfl))) qa_nil)) qa_nil))) (fun _ _ _ _ _ _ => (qg_name (i := 0) (show (["end", "ahead", "begin", "fewer"] : List Str).Nodup by decide +kernel) rfl (by first | exact Or.inl rfl | exact Or.inr rfl) (by first | exact .inl rfl | exact .inr rfl))) (fun _ _ _ _ _ _ => qif_nil) (fun _ _ _ _ _ _ => (qe_op opAdd (qe_op opPow (qe_op opSub (ke_ix (K := K) rfl (qv 1 rfl (by first | exact Or.inl rfl | exact Or.inr (Or.inl rfl) | exact Or.inr (Or.inr rfl))) (qv 0 rfl (by first | exact Or.inl rfl | exact Or.inr (Or.inl rfl) | exact Or.inr (Or.inr rfl))) (fun _ _ => rfl)) (ke_ix (K := K) rfl (qv 1 rfl (by first | exact Or.inl rfl | exact Or.inr (Or.inl rfl) | exact Or.inr (Or.inr rfl))) (qv 2 rfl (by first | exact Or.inl rfl | exact Or.inr (Or.inl rfl) | exact Or.inr (Or.inr rfl))) (fun _ _ => rfl))) qe_int) (ke_ix (K := K) rfl (qv 3 rfl (by first | exact Or.inl rfl | exact Or.inr (Or.inl rfl) | exact Or.inr (Or.inr rfl))) (qv 0 rfl (by first | exact Or.inl rfl | exact Or.inr (Or.inl rfl) | exact Or.inr (Or.inr rfl))) (fun _ _ => rfl))))) qa_nil)))))))))
    (qb_one (qs_ret (qv 3 rfl v_even_table_table))))))⟩
theorem LL.add {H H3 H4 : Hp} {p q : Addr} {ps : List Addr} {pss : List (List Int)} {l : List Int} (h : LL H p ps pss) (hq : H q = none) (s : Same H H3) (e3 : H3 q = some (.lst (l.map V.int))) (k : Kp [p] H3 H4) (e4 : H4 p = some (.lst (ps.map V.ref ++ [.ref q]))) : LL H4 p (ps ++ [q]) (pss ++ [l]) := by
  have hqp : q ≠ p := (ne_of_none h.at_ hq).symm
  have hqn : q ∉ ps := fun hm => by
    obtain ⟨b, e⟩ := pair_some h.it hm
    rw [hq] at e; cases e
  refine ⟨by rw [e4, List.map_append]; rfl, ?_, ?_, ?_⟩
  · exact List.nodup_append.mpr ⟨h.nd, by simp, fun a ha b hb => by
      have : b = q := by simpa using hb
      subst this; exact fun z => hqn (z ▸ ha)⟩
  · intro hm
    rcases List.mem_append.mp hm with hm | hm
    · exact h.np hm
    · exact hqp (by simpa using hm : p = q).symm
  · exact pair_snoc (F := fun a ns => H4 a = some (.lst (List.map V.int ns))) (b := l) (k.one hqp e3) (pair_imp h.it fun a ha b e => k.one (fun z => h.np (z ▸ ha)) (s _ _ e))
open M25 in
structure TabOk (ns : List Int) (m : Nat) (pss : List (List Int)) : Prop where
  len : pss.length = m + 1
  z : pss[0]? = some []
  ok : ∀ k r, 1 ≤ k → pss[k]? = some r → RowOk ns k r
open M25 in
theorem TabOk.add {ns : List Int} {m : Nat} {pss : List (List Int)} {r : List Int} (h : TabOk ns m pss) (hr : RowOk ns (m + 1) r) : TabOk ns (m + 1) (pss ++ [r]) := by
  refine ⟨by rw [List.length_append, h.len]; rfl, ?_, fun k r' hk e => ?_⟩
  · rw [List.getElem?_append_left (by rw [h.len]; omega)]; exact h.z
  · by_cases hk2 : k < m + 1
    · rw [List.getElem?_append_left (by rw [h.len]; exact hk2)] at e; exact h.ok k r' hk e
    · rw [List.getElem?_append_right (by rw [h.len]; omega), h.len] at e
      by_cases hk3 : k = m + 1
      · subst hk3; simp at e; subst e; exact hr
      · rw [List.getElem?_eq_none (by simp; omega)] at e; cases e
theorem map_ref_at {ps : List Addr} {i : Nat} {a : Addr} (h : ps[i]? = some a) : (ps.map V.ref)[i]? = some (.ref a) := by rw [List.getElem?_map, h]; rfl
open M25 in
theorem sq_small {ns : List Int} (hle : ns.length ≤ 1000) (hz : ∀ n ∈ ns, 0 ≤ n ∧ n ≤ 1000000000000) {b e : Nat} (hb : b ≤ ns.length) (he : e ≤ ns.length) : (S ns e - S ns b).natAbs < 2 ^ 64 := by
  have h1 := S_bd (fun n hn => (hz n hn).1) (fun n hn => (hz n hn).2) b
  have h2 := S_bd (fun n hn => (hz n hn).1) (fun n hn => (hz n hn).2) e
  show (S ns e - S ns b).natAbs < 18446744073709551616
  omega
open M25 in
def sp_even_table : Sp := fun vs H Q _ => ∃ (r : Addr) (ns : List Int) (m : Nat), vs = [.ref r, .int m] ∧ H r = some (.lst (ns.map V.int)) ∧ ns.length ≤ 1000 ∧ (∀ n ∈ ns, 0 ≤ n ∧ n ≤ 1000000000000) ∧ 1 ≤ m ∧ m ≤ ns.length ∧
  ∀ (p : Addr) (ps : List Addr) (pss : List (List Int)) (H' : Hp), (∀ a ∈ p :: ps, H a = none) → Same H H' → LL H' p ps pss → TabOk ns m pss → Q (.ref p) H'
open M25 in
theorem ok_even_table (B : Bl mg) (D_sums_ahead : Def P w K mg base 1 "sums_ahead" ["row"] sp_sums_ahead) (F : Fun K "even_table" "even_table" s_even_table f fd) : FnOk P w K mg base CX0 2 f fd ["row", "most"] sp_even_table := by
  refine F.okq sc_even_table (fun vs H Q E h => ?_) (fun cdv A outer s H vs Q E hr h => ?_)
  · obtain ⟨r, ns, m, rfl, _⟩ := h; rfl
  obtain ⟨r, ns, m, rfl, hr0, hle, hz, m1, m2, q⟩ := h
  refine ⟨t_even_table B D_sums_ahead hr, ?_⟩
  refine ⟨r, ns, rfl, hr0, hle, fun ah H1 hah s1 e1 => ?_⟩
  refine i_newL (by show 0 ≤ sizeLine; decide) fun p0 H2 hp0 s2 e2 => ?_
  have e1' : H1 ah = some (.lst ((pre ns ns.length).map V.int ++ [V.int (S ns ns.length)])) := by rw [e1, pre_map]
  refine i_sl (SqL.of (s2 _ _ e1')) fun sl H3 hsl s3 e3 => ?_
  rw [cut_init] at e3
  have s03 : Same H H3 := s1.trans (s2.trans s3)
  refine ⟨⟨_, SqL.of e3⟩, comp_lst ((pre ns ns.length).map V.int) (fun i D σ H' ys => ys = (((List.range i).map fun b => sq ns b ns.length)).map V.int ∧ Same H3 H' ∧ ∃ o, σ = [o, some (.ref ah)]) ?_ ?_ ?_ ?_⟩
  · intro D H' hD s' e'
    exact ⟨rfl, s', _, rfl⟩
  · rintro i D σ H' ys hD ⟨_, s', _⟩
    exact SqL.of (s' _ _ e3)
  · rintro i x D σ H' ys hx hD ⟨rfl, s', o, rfl⟩ eD
    obtain ⟨t, rfl, ht, _⟩ := vints_at hx
    have hi : i < ns.length := by have := (List.getElem?_eq_some_iff.mp ht).1; rwa [pre_len] at this
    rw [pre_at hi] at ht
    cases ht
    have eah := s' _ _ (s3 _ _ (s2 _ _ e1'))
    refine bT (i_ix (.inl (SqL.of eah)) (atI_last _ _) ⟨⟨by decide, by decide, sq_small hle hz (Nat.le_of_lt hi) (Nat.le_refl _)⟩, ?_⟩)
    refine ⟨eD, sz_lt (by simp; omega), fun H6 k6 e6 => ⟨?_, s'.new k6 hD, _, rfl⟩⟩
    rw [List.range_succ, List.map_append, List.map_append]; rfl
  rintro p1 σ H4 ys hp1 ⟨rfl, s4, _⟩ e4
  rw [List.length_map, pre_len] at e4
  have e0 := s4 _ _ (s3 _ _ e2)
  refine i_newL (by show 2 ≤ sizeLine; decide) fun tb H5 htb s5 e5 => ?_
  have s05 : Same H H5 := s03.trans (s4.trans s5)
  have n01 : p0 ≠ p1 := ne_of_none (s3 _ _ e2) hp1
  have ll0 : LL H5 tb [p0, p1] [[], (List.range ns.length).map fun b => sq ns b ns.length] := by
    refine ⟨e5, by simpa using n01, ?_, .cons (s5 _ _ e0) (.cons (s5 _ _ e4) .nil)⟩
    have a1 := (ne_of_none e0 htb)
    have a2 := (ne_of_none e4 htb)
    simp only [List.mem_cons, List.not_mem_nil, or_false, not_or]
    exact ⟨fun z => a1 z.symm, fun z => a2 z.symm⟩
  have f0 : ∀ a ∈ tb :: [p0, p1], H a = none := by
    intro a ha
    simp only [List.mem_cons, List.not_mem_nil, or_false] at ha
    rcases ha with rfl | rfl | rfl
    · exact (s03.trans s4).free htb
    · exact s1.free hp0
    · exact s03.free hp1
  have tab0 : TabOk ns 1 [[], (List.range ns.length).map fun b => sq ns b ns.length] := by
    refine ⟨rfl, rfl, fun k r' hk e => ?_⟩
    match k, hk, e with
    | 1, _, e => simp at e; subst e; exact row_one
    | k + 2, _, e => simp at e
  have nta : ah ≠ tb := ne_of_none (s4 _ _ (s3 _ _ (s2 _ _ e1))) htb
  have eah5 : H5 ah = some (.lst ((pre ns (ns.length + 1)).map V.int)) := s5 _ _ (s4 _ _ (s3 _ _ (s2 _ _ e1)))
  refine ⟨fun σ H' => (∃ ps pss, (∀ a ∈ tb :: ps, H a = none) ∧ Same H H' ∧ LL H' tb ps pss ∧ TabOk ns m pss) ∧ ∃ o4 o5, σ = [some (.ref r), some (.int m), some (.ref ah), some (.ref tb), o4, o5], ?_, ?_⟩
  · refine ⟨⟨by omega, by omega, by omega, by omega⟩, for_range (fun i σ H' => (∃ ps pss, (∀ a ∈ tb :: ps, H a = none) ∧ Same H H' ∧ LL H' tb ps pss ∧ TabOk ns (1 + i) pss) ∧ H' ah = some (.lst ((pre ns (ns.length + 1)).map V.int)) ∧ ∃ o4 o5, σ = [some (.ref r), some (.int m), some (.ref ah), some (.ref tb), o4, o5]) ?_ ?_ ?_⟩
    · exact ⟨⟨[p0, p1], _, f0, s05, ll0, tab0⟩, eah5, _, _, rfl⟩
    · rintro i σ H6 hi ⟨⟨ps, pss, hfr, s6, ll, tab⟩, eah, o4, o5, rfl⟩
      have hi' : 2 + i ≤ m := by omega
      have hlp : ps.length = 2 + i := by rw [ll.len, tab.len]; omega
      have hx : ps[1 + i]? = some ps[1 + i] := List.getElem?_eq_getElem (by omega)
      obtain ⟨fw, hfw, efw⟩ := pair_get ll.it hx
      have okf := tab.ok _ _ (by omega) hfw
      generalize ps[1 + i] = fa at hx efw
      have hfl : fw.length = ns.length - i := by have := okf.1; omega
      refine i_ixN (1 + i) ll.at_ (by omega) (map_ref_at hx) ?_
      refine ⟨i_tyL ll.at_, i_lenI efw ⟨⟨by omega, by omega⟩, comp_rng (fun b D σ H' ys => ∃ zs : List Int, ys = zs.map V.int ∧ zs.length = b ∧ (∀ j v, zs[j]? = some v → Least (sq ns) (2 + i) j ns.length v) ∧ Same H6 H' ∧ ∃ o, σ = [o, some (.ref fa), some (.ref ah)]) ?_ ?_ ?_⟩⟩
      · intro D H' hD s' e'
        exact ⟨[], rfl, rfl, by simp, s', _, rfl⟩
      · rintro b D σ H7 ys hb hD ⟨zs, rfl, hzl, hzz, s7, o, rfl⟩ eD
        have hb' : b + 1 < fw.length := by omega
        refine bT (i_lenI (s7 _ _ efw) ⟨⟨by omega, by omega, by omega, by omega⟩, comp_rng (fun j D2 σ H' ys => ys = ((List.range j).map fun t => sq ns b (b + 1 + t) + fw.getD (b + 1 + t) 0).map V.int ∧ Same H7 H' ∧ ∃ o, σ = [o, some (.ref ah), some (.int (0 + (b : Int))), some (.ref fa)]) ?_ ?_ ?_⟩)
        · intro D2 H' hD2 s' e'
          exact ⟨rfl, s', _, rfl⟩
        · rintro j D2 σ H8 ys hj hD2 ⟨rfl, s8, o', rfl⟩ eD2
          have hj' : b + 1 + j < fw.length := by omega
          have eah8 := s8 _ _ (s7 _ _ eah)
          have efw8 := s8 _ _ (s7 _ _ efw)
          refine bT (i_ixN (b + 1 + j) eah8 (by omega) (by rw [List.getElem?_map, pre_at (by omega)]; rfl) (i_ixN b eah8 (by omega) (by rw [List.getElem?_map, pre_at (by omega)]; rfl) ?_))
          refine ⟨⟨by decide, by decide, sq_small hle hz (by omega) (by omega)⟩, i_ixI efw8 (by omega) (by omega) ?_⟩
          have et : (0 + (b : Int) + 1 + (j : Int)).toNat = b + 1 + j := by omega
          rw [et]
          refine ⟨eD2, sz_lt (by simp; omega), fun H9 k9 e9 => ⟨?_, s8.new k9 hD2, _, rfl⟩⟩
          rw [List.range_succ, List.map_append, List.map_append]; rfl
        · rintro D2 σ H8 ys hD2 ⟨rfl, s8, _⟩ eD2
          have hlen : (((fw.length : Int)) - (0 + (b : Int) + 1)).toNat = fw.length - (b + 1) := by omega
          rw [hlen] at eD2
          refine i_min (SqL.of eD2) (fun z => ?_) fun M hM hmin => ?_
          · have := congrArg List.length z
            simp at this; omega
          · refine ⟨s8 _ _ eD, sz_lt (by rw [List.length_map]; omega), fun H9 k9 e9 => ⟨zs ++ [M], map_snoc zs M, by simp [hzl], fun j v hj => ?_, (s7.trans s8).new k9 hD, _, rfl⟩⟩
            by_cases hjz : j < zs.length
            · rw [List.getElem?_append_left hjz] at hj; exact hzz j v hj
            · rw [List.getElem?_append_right (by omega)] at hj
              have hj0 : j - zs.length = 0 := by
                by_cases h0 : j - zs.length = 0
                · exact h0
                · rw [List.getElem?_eq_none (by simp; omega)] at hj; cases hj
              rw [hj0] at hj
              simp at hj
              subst hj
              have ej : j = b := by omega
              subst ej
              have e2i : 2 + i = (1 + i) + 1 := by omega
              rw [e2i]
              refine least_back (fun t => fw.getD t 0) (fun t h1 h2 => ?_) ?_ ?_
              · have ht : t < fw.length := by omega
                have : fw[t]? = some (fw.getD t 0) := by rw [List.getD_eq_getElem?_getD, List.getElem?_eq_getElem ht]; rfl
                exact okf.2 t _ this
              · obtain ⟨t, ht, rfl⟩ := List.mem_map.mp hM
                have ht' := List.mem_range.mp ht
                exact ⟨j + 1 + t, by omega, by omega, rfl⟩
              · intro t h1 h2
                refine hmin _ (List.mem_map.mpr ⟨t - (j + 1), List.mem_range.mpr (by omega), ?_⟩)
                have : j + 1 + (t - (j + 1)) = t := by omega
                rw [this]
      · rintro D σ H7 ys hD ⟨zs, rfl, hzl, hzz, s7, _⟩ eD
        have hlen : ((fw.length : Int) - 1).toNat = fw.length - 1 := by omega
        rw [hlen] at hzl
        refine i_app (s7 _ _ ll.at_) (sz_lt (by rw [List.length_map]; omega)) fun H8 k8 e8 => ?_
        have rok : RowOk ns (1 + i + 1) zs := ⟨by omega, fun j v hj => by have := hzz j v hj; rwa [show 2 + i = 1 + i + 1 by omega] at this⟩
        refine ⟨⟨ps ++ [D], pss ++ [zs], fun a ha => ?_, (s6.trans s7).new k8 (hfr tb (by simp)), ll.add hD s7 eD k8 e8, tab.add rok⟩, k8.one nta (s7 _ _ eah), _, _, rfl⟩
        rw [List.mem_cons, List.mem_append] at ha
        rcases ha with rfl | ha | ha
        · exact hfr _ (by simp)
        · exact hfr a (List.mem_cons_of_mem _ ha)
        · have : a = D := by simpa using ha
          subst this; exact s6.free hD
    · rintro σ H' ⟨⟨ps, pss, h1, h2, h3, h4⟩, _, o⟩
      have : 1 + ((m : Int) + 1 - 2).toNat = m := by omega
      rw [this] at h4
      exact ⟨⟨ps, pss, h1, h2, h3, h4⟩, o⟩
  · rintro σ H' ⟨⟨ps, pss, h1, h2, h3, h4⟩, o4, o5, rfl⟩
    exact q tb ps pss H' h1 h2 h3 h4

end
end K

set_option linter.all false
set_option Elab.async false
set_option maxRecDepth 100000
set_option maxHeartbeats 4000000
namespace K
open PySem L2
section
variable {C : Addr} {P : Program} {w : World} {K : PySem.W.Frag} {mg : Str → Option Value} {base : Heap} {f : Addr} {fd : FuncData}

abbrev s_least_evens : Stmt := top 3
theorem sc_least_evens : FnScope ["table"] ["table"] (defScope s_least_evens) := ⟨rfl, rfl, rfl, by decide +kernel, rfl, by decide +kernel, by decide +kernel⟩
theorem v_least_evens_table : Vis (defScope s_least_evens) "table" := Or.inl (by kernel_rfl)
def t_least_evens {cdv : Value} {A : Around} {outer : List Env} {s : Shared} {H : Hp} {E : XK} (B : Bl mg) (hr : Room 0 (A.deeper (PyProof.Rows.envOfC "least_evens" (defScope s_least_evens) s.heap.objs.size f cdv))) :
    { t : TS // QB (cxOf CX0 P w K mg base ["table"] "least_evens" (defScope s_least_evens) f cdv A outer s H E).nox (defBody s_least_evens) t } :=
  ⟨_, (qb_one (qs_ret (qe_cp ["evens"] [none] rfl (ki_list (K := K) rfl (ke_slice (K := K) rfl (qv 0 rfl v_least_evens_table) (qo_some qe_int) qo_none)) (fun _ _ _ _ _ _ => (qg_name (i := 0) (show (["evens"] : List Str).Nodup by decide +kernel) rfl (by first | exact Or.inl rfl | exact Or.inr rfl) (by first | exact .inl rfl | exact .inr rfl))) (fun _ _ _ _ _ _ => qif_nil) (fun _ _ _ _ _ _ => (ke_ix (K := K) rfl (qv 0 rfl (by first | exact Or.inl rfl | exact Or.inr (Or.inl rfl) | exact Or.inr (Or.inr rfl))) qe_int (fun _ _ => rfl))))))⟩
theorem cut_tail (x : V) (xs : List V) : cutV (x :: xs) (some 1) none = xs := by
  unfold cutV
  have e1 : HT.sIx (x :: xs).length 0 (some 1) = 1 := by
    have := HT.sIx_nat (x :: xs).length 0 1
    simp only [List.length_cons] at this ⊢
    rw [show ((1 : Nat) : Int) = 1 from rfl] at this
    rw [this]; omega
  have e2 : HT.sIx (x :: xs).length (x :: xs).length none = (x :: xs).length := rfl
  rw [e1, e2]
  simp
open M25 in
def sp_least_evens : Sp := fun vs H Q _ => ∃ (p : Addr) (ps : List Addr) (pss : List (List Int)) (ns : List Int), vs = [.ref p] ∧ LL H p ps pss ∧ TabOk ns ns.length pss ∧ 1 ≤ ns.length ∧ ns.length ≤ 1000 ∧
  ∀ (z : Addr) (zs : List Int) (H' : Hp), H z = none → Same H H' → H' z = some (.lst (zs.map V.int)) → Evens ns zs → Q (.ref z) H'
open M25 in
theorem ok_least_evens (B : Bl mg) (F : Fun K "least_evens" "least_evens" s_least_evens f fd) : FnOk P w K mg base CX0 1 f fd ["table"] sp_least_evens := by
  refine F.okq sc_least_evens (fun vs H Q E h => ?_) (fun cdv A outer s H vs Q E hr h => ?_)
  · obtain ⟨p, ps, pss, ns, rfl, _⟩ := h; rfl
  obtain ⟨p, ps, pss, ns, rfl, ll, tab, n1, n2, q⟩ := h
  refine ⟨t_least_evens B  hr, ?_⟩
  have hlp := ll.len
  have htl := tab.len
  cases ps with
  | nil => simp at hlp; omega
  | cons p0 ps =>
  refine i_sl (SqL.of ll.at_) fun sl H1 hsl s1 e1 => ?_
  rw [List.map_cons, cut_tail] at e1
  refine ⟨⟨_, SqL.of e1⟩, comp_lst (ps.map V.ref) (fun i D σ H' ys => ∃ zs : List Int, ys = zs.map V.int ∧ zs.length = i ∧ (∀ j v, zs[j]? = some v → Least (sq ns) (j + 1) 0 ns.length v) ∧ Same H1 H' ∧ ∃ o, σ = [o]) ?_ ?_ ?_ ?_⟩
  · intro D H' hD s' e'
    exact ⟨[], rfl, rfl, by simp, s', _, rfl⟩
  · rintro i D σ H' ys hD ⟨_, _, _, _, s', _⟩
    exact SqL.of (s' _ _ e1)
  · rintro i x D σ H' ys hx hD ⟨zs, rfl, hzl, hz, s', o, rfl⟩ eD
    obtain ⟨a, ha, rfl⟩ := ref_at hx
    have hi : i < ps.length := (List.getElem?_eq_some_iff.mp ha).1
    obtain ⟨rw_, hrw, erw⟩ := pair_get ll.it (i := i + 1) (a := a) (by simpa using ha)
    have ok := tab.ok _ _ (by omega) hrw
    have hl := ok.1
    have hps : ps.length = ns.length := by simp at hlp; omega
    refine bT (i_ixI (s' _ _ (s1 _ _ erw)) (by decide) (by omega) ?_)
    have hv := ok.2 0 (rw_.getD (0 : Int).toNat 0) (getD_some (by omega))
    refine ⟨eD, sz_lt (by rw [List.length_map]; omega), fun H6 k6 e6 => ⟨zs ++ [rw_.getD (0 : Int).toNat 0], map_snoc zs _, by simp [hzl], fun j v hj => ?_, s'.new k6 hD, _, rfl⟩⟩
    by_cases hjz : j < zs.length
    · rw [List.getElem?_append_left hjz] at hj; exact hz j v hj
    · rw [List.getElem?_append_right (by omega)] at hj
      have hj0 : j - zs.length = 0 := by
        by_cases h0 : j - zs.length = 0
        · exact h0
        · rw [List.getElem?_eq_none (by simp; omega)] at hj; cases hj
      rw [hj0] at hj
      simp only [List.getElem?_cons_zero, Option.some.injEq] at hj
      subst hj
      have ej : j = i := by omega
      subst ej; exact hv
  · rintro D σ H' ys hD ⟨zs, rfl, hzl, hz, s', _⟩ eD
    rw [List.length_map] at hzl
    have hps : ps.length = ns.length := by simp at hlp; omega
    exact q D zs H' (s1.free hD) (s1.trans s') eD ⟨by omega, hz⟩

abbrev s_first_even_cut : Stmt := top 5
theorem sc_first_even_cut : FnScope ["row", "many", "table", "ahead", "cut", "begin", "left", "end"] ["row", "many", "table"] (defScope s_first_even_cut) := ⟨rfl, rfl, rfl, by decide +kernel, rfl, by decide +kernel, by decide +kernel⟩
theorem l_first_even_cut_ahead : Loc (defScope s_first_even_cut) "ahead" := Or.inl (by kernel_rfl)
theorem l_first_even_cut_begin : Loc (defScope s_first_even_cut) "begin" := Or.inl (by kernel_rfl)
theorem l_first_even_cut_cut : Loc (defScope s_first_even_cut) "cut" := Or.inl (by kernel_rfl)
theorem l_first_even_cut_end : Loc (defScope s_first_even_cut) "end" := Or.inl (by kernel_rfl)
theorem l_first_even_cut_left : Loc (defScope s_first_even_cut) "left" := Or.inl (by kernel_rfl)
theorem v_first_even_cut_ahead : Vis (defScope s_first_even_cut) "ahead" := Or.inl (by kernel_rfl)
theorem v_first_even_cut_begin : Vis (defScope s_first_even_cut) "begin" := Or.inl (by kernel_rfl)
theorem v_first_even_cut_cut : Vis (defScope s_first_even_cut) "cut" := Or.inl (by kernel_rfl)
theorem v_first_even_cut_end : Vis (defScope s_first_even_cut) "end" := Or.inl (by kernel_rfl)
theorem v_first_even_cut_left : Vis (defScope s_first_even_cut) "left" := Or.inl (by kernel_rfl)
theorem v_first_even_cut_many : Vis (defScope s_first_even_cut) "many" := Or.inl (by kernel_rfl)
theorem v_first_even_cut_row : Vis (defScope s_first_even_cut) "row" := Or.inl (by kernel_rfl)
theorem v_first_even_cut_table : Vis (defScope s_first_even_cut) "table" := Or.inl (by kernel_rfl)
theorem g_first_even_cut_range : (defScope s_first_even_cut).names.lookup ("range" : Str) = some NameKind.globalImplicit := by kernel_rfl
theorem g_first_even_cut_sums_ahead : (defScope s_first_even_cut).names.lookup ("sums_ahead" : Str) = some NameKind.globalImplicit := by kernel_rfl
def t_first_even_cut {cdv : Value} {A : Around} {outer : List Env} {s : Shared} {H : Hp} {E : XK} (B : Bl mg) (D_sums_ahead : Def P w K mg base 1 "sums_ahead" ["row"] sp_sums_ahead) (hr : Room 1 (A.deeper (PyProof.Rows.envOfC "first_even_cut" (defScope s_first_even_cut) s.heap.objs.size f cdv))) :
    { t : TS // QB (cxOf CX0 P w K mg base ["row", "many", "table", "ahead", "cut", "begin", "left", "end"] "first_even_cut" (defScope s_first_even_cut) f cdv A outer s H E).nox (defBody s_first_even_cut) t } :=
  ⟨_, (qb_cons (qs_set (i := 3) sc_first_even_cut.nd rfl l_first_even_cut_ahead (.inl rfl) (qe_def D_sums_ahead hr (by decide) g_first_even_cut_sums_ahead (qa_cons (qv 0 rfl v_first_even_cut_row) qa_nil)))
    (qb_cons (qs_set (i := 4) sc_first_even_cut.nd rfl l_first_even_cut_cut (.inl rfl) (qe_lst qa_nil))
    (qb_cons (qs_set (i := 5) sc_first_even_cut.nd rfl l_first_even_cut_begin (.inl rfl) qe_int)
    (qb_mid (qs_for PassesOwn.never rfl (qi_r3 g_first_even_cut_range B.range (qa_cons (qe_op opSub (qv 1 rfl v_first_even_cut_many) qe_int) (qa_cons qe_int (qa_cons (qe_un unNeg qe_int) qa_nil)))) (qg_name (i := 6) sc_first_even_cut.nd rfl l_first_even_cut_left (.inl rfl)) (qb_cons (qs_set (i := 7) sc_first_even_cut.nd rfl l_first_even_cut_end (.inl rfl) (qe_op opAdd (qv 5 rfl v_first_even_cut_begin) qe_int))
    (qb_mid (qs_while PassesOwn.never (qt_cmp opGt (qe_op opAdd (qe_op opPow (qe_op opSub (ke_ix (K := K) rfl (qv 3 rfl v_first_even_cut_ahead) (qv 7 rfl v_first_even_cut_end) (fun _ _ => rfl)) (ke_ix (K := K) rfl (qv 3 rfl v_first_even_cut_ahead) (qv 5 rfl v_first_even_cut_begin) (fun _ _ => rfl))) qe_int) (ke_ix (K := K) rfl (ke_ix (K := K) rfl (qv 2 rfl v_first_even_cut_table) (qv 6 rfl v_first_even_cut_left) (fun _ _ => rfl)) (qv 7 rfl v_first_even_cut_end) (fun _ _ => rfl))) (ke_ix (K := K) rfl (ke_ix (K := K) rfl (qv 2 rfl v_first_even_cut_table) (qe_op opAdd (qv 6 rfl v_first_even_cut_left) qe_int) (fun _ _ => rfl)) (qv 5 rfl v_first_even_cut_begin) (fun _ _ => rfl))) (qb_one (qs_aug (i := 7) sc_first_even_cut.nd rfl l_first_even_cut_end (.inl rfl) qe_int ipAdd)))
    (qb_cons (qs_ex (ke_m1 (K := K) rfl PySem.F.plainAttrs_list PySem.F.slot_list_append PySem.F.type_list_append mtApp (qv 4 rfl v_first_even_cut_cut) (qv 7 rfl v_first_even_cut_end)))
    (qb_one (qs_set (i := 5) sc_first_even_cut.nd rfl l_first_even_cut_begin (.inl rfl) (qv 7 rfl v_first_even_cut_end)))))))
    (qb_one (qs_ret (qv 4 rfl v_first_even_cut_cut)))))))⟩
open M25 in
theorem tab_get {H : Hp} {tb : Addr} {ps : List Addr} {pss : List (List Int)} {ns : List Int} {M k : Nat} (ll : LL H tb ps pss) (tab : TabOk ns M pss) (k1 : 1 ≤ k) (k2 : k ≤ M) : ∃ a row, ps[k]? = some a ∧ H a = some (.lst (List.map V.int row)) ∧ RowOk ns k row := by
  have hl := ll.len
  have htl := tab.len
  have hx : ps[k]? = some (ps[k]'(by omega)) := List.getElem?_eq_getElem (by omega)
  obtain ⟨row, h1, h2⟩ := pair_get ll.it hx
  exact ⟨_, row, hx, h2, tab.ok k row k1 h1⟩
open M25 in
theorem row_at {ns row : List Int} {k b : Nat} (h : RowOk ns k row) (hb : b + k ≤ ns.length) : b < row.length ∧ Least (sq ns) k b ns.length (row.getD b 0) := by
  have := h.1
  have hb' : b < row.length := by omega
  exact ⟨hb', h.2 b _ (getD_some hb')⟩
open M25 in
def sp_first_even_cut : Sp := fun vs H Q _ => ∃ (r tb : Addr) (ps : List Addr) (pss : List (List Int)) (ns : List Int) (m M : Nat), vs = [.ref r, .int m, .ref tb] ∧ H r = some (.lst (ns.map V.int)) ∧ ns.length ≤ 1000 ∧ (∀ n ∈ ns, 0 ≤ n ∧ n ≤ 1000000000000) ∧ LL H tb ps pss ∧ TabOk ns M pss ∧ 1 ≤ m ∧ m ≤ M ∧ M ≤ ns.length ∧
  ∀ (p : Addr) (cs : List Nat) (b : Nat) (H' : Hp), H p = none → Same H H' → H' p = some (.lst ((zs cs).map V.int)) → Chain (sq ns) ns.length m (m - 1) cs b → Q (.ref p) H'
open M25 in
theorem ok_first_even_cut (B : Bl mg) (D_sums_ahead : Def P w K mg base 1 "sums_ahead" ["row"] sp_sums_ahead) (F : Fun K "first_even_cut" "first_even_cut" s_first_even_cut f fd) : FnOk P w K mg base CX0 2 f fd ["row", "many", "table"] sp_first_even_cut := by
  refine F.okq sc_first_even_cut (fun vs H Q E h => ?_) (fun cdv A outer s H vs Q E hr h => ?_)
  · obtain ⟨r, tb, ps, pss, ns, m, M, rfl, _⟩ := h; rfl
  obtain ⟨r, tb, ps, pss, ns, m, M, rfl, hr0, hle, hz, ll, tab, m1, m2, m3, q⟩ := h
  refine ⟨t_first_even_cut B D_sums_ahead hr, ?_⟩
  refine ⟨r, ns, rfl, hr0, hle, fun ah H1 hah s1 e1 => ?_⟩
  refine i_newL (by show 0 ≤ sizeLine; decide) fun cu H2 hcu s2 e2 => ?_
  have hcu0 : H cu = none := s1.free hcu
  refine ⟨fun σ H' => ∃ cs b, Same H H' ∧ H' cu = some (.lst ((zs cs).map V.int)) ∧ Chain (sq ns) ns.length m (m - 1) cs b ∧ ∃ o5 o6 o7, σ = [some (.ref r), some (.int m), some (.ref tb), some (.ref ah), some (.ref cu), o5, o6, o7], ?_, ?_⟩
  · refine ⟨rfl, ⟨by omega, by omega, by omega, by omega⟩, for_down (fun i σ H' => ∃ cs b, Same H H' ∧ H' ah = some (.lst ((pre ns (ns.length + 1)).map V.int)) ∧ H' cu = some (.lst ((zs cs).map V.int)) ∧ Chain (sq ns) ns.length m i cs b ∧ b + (m - i) ≤ ns.length ∧ ∃ o6 o7, σ = [some (.ref r), some (.int m), some (.ref tb), some (.ref ah), some (.ref cu), some (.int b), o6, o7]) ?_ ?_ ?_⟩
    · exact ⟨[], 0, s1.trans s2, s2 _ _ e1, e2, .nil, by omega, _, _, rfl⟩
    · rintro i σ H3 hi ⟨cs, b, s3, eah, e3, ch, hb, o6, o7, rfl⟩
      have hi' : i + 1 < m := by omega
      have hcl := ch.len
      obtain ⟨ra, rowA, hra, era, okA⟩ := tab_get (k := m - 1 - i) (ll.same s3) tab (by omega) (by omega)
      obtain ⟨rb, rowB, hrb, erb, okB⟩ := tab_get (k := m - i) (ll.same s3) tab (by omega) (by omega)
      obtain ⟨hbl, hu⟩ := row_at okB hb
      obtain ⟨e0, he0, hit⟩ := hit_ex (by omega) hu
      have hle0 := hit.le
      have nac : ah ≠ cu := ne_of_none e1 hcu
      have el : ((m : Int) - 1 - (i : Int)) = ((m - 1 - i : Nat) : Int) := by omega
      refine ⟨fun σ H' => H' = H3 ∧ ∃ t : Nat, Step (sq ns) ns.length (m - i) b t ∧ σ = [some (.ref r), some (.int m), some (.ref tb), some (.ref ah), some (.ref cu), some (.int b), some (.int ((m : Int) - 1 - (i : Int))), some (.int t)], ?_, ?_⟩
      · refine while_m (fun mm σ H' => H' = H3 ∧ ∃ t : Nat, mm = ns.length - t ∧ b < t ∧ (∀ e', b < e' → e' < t → ¬ Hit (sq ns) ns.length (m - i) b e') ∧ σ = [some (.ref r), some (.int m), some (.ref tb), some (.ref ah), some (.ref cu), some (.int b), some (.int ((m : Int) - 1 - (i : Int))), some (.int t)]) (ns.length - (b + 1)) ⟨rfl, b + 1, rfl, by omega, fun e' h1 h2 => by omega, rfl⟩ ?_
        rintro mm σ H' ⟨rfl, t, hmm, hbt, hno, rfl⟩
        have hte := hit_before hno hit he0
        have em : m - i - 1 = m - 1 - i := by omega
        obtain ⟨htl, hv⟩ := row_at (b := t) okA (by omega)
        refine i_ixN t eah rfl (by rw [List.getElem?_map, pre_at (by omega)]; rfl) (i_ixN b eah rfl (by rw [List.getElem?_map, pre_at (by omega)]; rfl) ?_)
        refine ⟨⟨by decide, by decide, sq_small hle hz (by omega) (by omega)⟩, ?_⟩
        refine i_ixN (m - 1 - i) (ll.same s3).at_ el (map_ref_at hra) (i_ixI era (by omega) (by omega) ?_)
        refine i_ixN (m - i) (ll.same s3).at_ (by omega) (map_ref_at hrb) (i_ixI erb (by omega) (by omega) ?_)
        rw [show ((t : Int)).toNat = t by omega, show ((b : Int)).toNat = b by omega]
        have hv' : Least (sq ns) (m - i - 1) t ns.length (rowA.getD t 0) := by rw [em]; exact hv
        have hge := no_less (w := sq ns) (by omega) hbt hv' hu
        have hiff := hit_iff hv' hu
        refine dec2 (fun c => ?_) (fun c => ?_)
        · have c' : rowB.getD b 0 < sq ns b t + rowA.getD t 0 := c
          have hnt : ¬ Hit (sq ns) ns.length (m - i) b t := fun z => by have := hiff.mp z; omega
          have htn : t < e0 := by
            rcases Nat.lt_or_ge t e0 with z | z
            · exact z
            · have : t = e0 := by omega
              exact absurd (this ▸ hit) hnt
          refine ⟨ns.length - (t + 1), by omega, rfl, t + 1, rfl, by omega, fun e' h1 h2 => ?_, rfl⟩
          by_cases z : e' = t
          · subst z; exact hnt
          · exact hno e' h1 (by omega)
        · have c' : ¬ rowB.getD b 0 < sq ns b t + rowA.getD t 0 := c
          exact ⟨rfl, t, ⟨hbt, hiff.mpr (by omega), hno⟩, rfl⟩
      · rintro σ H' ⟨rfl, t, st, rfl⟩
        have htl := st.2.1.le
        refine ⟨i_tyL e3, i_appI e3 (by rw [List.length_map]; omega) fun H4 k4 e4 => ?_⟩
        refine ⟨cs ++ [t], t, s3.new k4 hcu0, k4.one nac eah, ?_, .snoc ch st, by omega, _, _, rfl⟩
        rw [e4]; simp
    · rintro σ H' ⟨cs, b, h1, _, h2, h3, _, o6, o7, rfl⟩
      have : ((m : Int) - 1 - 0).toNat = m - 1 := by omega
      rw [this] at h3
      exact ⟨cs, b, h1, h2, h3, _, _, _, rfl⟩
  · rintro σ H' ⟨cs, b, h1, h2, h3, o5, o6, o7, rfl⟩
    exact q cu cs b H' hcu0 h1 h2 h3

end
end K

set_option linter.all false
set_option Elab.async false
set_option maxRecDepth 100000
set_option maxHeartbeats 4000000
namespace K
open PySem L2
section
variable {C : Addr} {P : Program} {w : World} {K : PySem.W.Frag} {mg : Str → Option Value} {base : Heap} {f : Addr} {fd : FuncData}

abbrev s_at_price : Stmt := top 7
theorem sc_at_price : FnScope ["row", "price", "table", "costs", "cost", "many"] ["row", "price"] (defScope s_at_price) := ⟨rfl, rfl, rfl, by decide +kernel, rfl, by decide +kernel, by decide +kernel⟩
theorem l_at_price_cost : Loc (defScope s_at_price) "cost" := Or.inl (by kernel_rfl)
theorem l_at_price_costs : Loc (defScope s_at_price) "costs" := Or.inl (by kernel_rfl)
theorem l_at_price_many : Loc (defScope s_at_price) "many" := Or.inl (by kernel_rfl)
theorem l_at_price_table : Loc (defScope s_at_price) "table" := Or.inl (by kernel_rfl)
theorem v_at_price_cost : Vis (defScope s_at_price) "cost" := Or.inl (by kernel_rfl)
theorem v_at_price_costs : Vis (defScope s_at_price) "costs" := Or.inl (by kernel_rfl)
theorem v_at_price_many : Vis (defScope s_at_price) "many" := Or.inl (by kernel_rfl)
theorem v_at_price_row : Vis (defScope s_at_price) "row" := Or.inl (by kernel_rfl)
theorem v_at_price_table : Vis (defScope s_at_price) "table" := Or.inl (by kernel_rfl)
theorem g_at_price_enumerate : (defScope s_at_price).names.lookup ("enumerate" : Str) = some NameKind.globalImplicit := by kernel_rfl
theorem g_at_price_even_table : (defScope s_at_price).names.lookup ("even_table" : Str) = some NameKind.globalImplicit := by kernel_rfl
theorem g_at_price_first_even_cut : (defScope s_at_price).names.lookup ("first_even_cut" : Str) = some NameKind.globalImplicit := by kernel_rfl
theorem g_at_price_least_evens : (defScope s_at_price).names.lookup ("least_evens" : Str) = some NameKind.globalImplicit := by kernel_rfl
theorem g_at_price_len : (defScope s_at_price).names.lookup ("len" : Str) = some NameKind.globalImplicit := by kernel_rfl
theorem g_at_price_min : (defScope s_at_price).names.lookup ("min" : Str) = some NameKind.globalImplicit := by kernel_rfl
def t_at_price {cdv : Value} {A : Around} {outer : List Env} {s : Shared} {H : Hp} {E : XK} (B : Bl mg) (D_even_table : Def P w K mg base 2 "even_table" ["row", "most"] sp_even_table) (D_least_evens : Def P w K mg base 1 "least_evens" ["table"] sp_least_evens) (D_first_even_cut : Def P w K mg base 2 "first_even_cut" ["row", "many", "table"] sp_first_even_cut) (hr : Room 2 (A.deeper (PyProof.Rows.envOfC "at_price" (defScope s_at_price) s.heap.objs.size f cdv))) :
    { t : TS // QB (cxOf CX0 P w K mg base ["row", "price", "table", "costs", "cost", "many"] "at_price" (defScope s_at_price) f cdv A outer s H E).nox (defBody s_at_price) t } :=
  ⟨_, (qb_cons (qs_set (i := 2) sc_at_price.nd rfl l_at_price_table (.inl rfl) (qe_def D_even_table hr (by decide) g_at_price_even_table (qa_cons (qv 0 rfl v_at_price_row) (qa_cons (qe_cB (kLen (K := K) rfl) g_at_price_len B.len boot_len' (qa_cons (qv 0 rfl v_at_price_row) qa_nil)) qa_nil))))
    (qb_cons (qs_cp ["many", "even", "price"] [none, none, some 1] (i := 3) rfl sc_at_price.nd rfl l_at_price_costs (.inl rfl) (ki_enum1 (K := K) rfl g_at_price_enumerate B.enumerate (qa_cons (qe_def D_least_evens hr (by decide) g_at_price_least_evens (qa_cons (qv 2 rfl v_at_price_table) qa_nil)) qa_nil) qe_int) (fun _ _ _ _ _ _ => (kg_tup (K := K) rfl rfl (qgs_cons (qg_name (i := 0) (show (["many", "even", "price"] : List Str).Nodup by decide +kernel) rfl (by first | exact Or.inl rfl | exact Or.inr rfl) (by first | exact .inl rfl | exact .inr rfl)) (qgs_cons (qg_name (i := 1) (show (["many", "even", "price"] : List Str).Nodup by decide +kernel) rfl (by first | exact Or.inl rfl | exact Or.inr rfl) (by first | exact .inl rfl | exact .inr rfl)) qgs_nil)))) (fun _ _ _ _ _ _ => qif_nil) (fun _ _ _ _ _ _ => (qe_op opAdd (qv 1 rfl (by first | exact Or.inl rfl | exact Or.inr (Or.inl rfl) | exact Or.inr (Or.inr rfl))) (qe_op opMul (qv 2 rfl (by first | exact Or.inl rfl | exact Or.inr (Or.inl rfl) | exact Or.inr (Or.inr rfl))) (qv 0 rfl (by first | exact Or.inl rfl | exact Or.inr (Or.inl rfl) | exact Or.inr (Or.inr rfl)))))))
    (qb_cons (qs_set (i := 4) sc_at_price.nd rfl l_at_price_cost (.inl rfl) (qe_cB (kMin (K := K) rfl rfl) g_at_price_min B.min boot_min' (qa_cons (qv 3 rfl v_at_price_costs) qa_nil)))
    (qb_cons (qs_set (i := 5) sc_at_price.nd rfl l_at_price_many (.inl rfl) (qe_op opAdd (ke_m1 (K := K) rfl PySem.F.plainAttrs_list PySem.F.slot_list_index PySem.F.type_list_index mtIndex (qv 3 rfl v_at_price_costs) (qv 4 rfl v_at_price_cost)) qe_int))
    (qb_one (qs_ret (qe_tup (qa_cons (qv 4 rfl v_at_price_cost) (qa_cons (qv 5 rfl v_at_price_many) (qa_cons (qe_def D_first_even_cut hr (by decide) g_at_price_first_even_cut (qa_cons (qv 0 rfl v_at_price_row) (qa_cons (qv 5 rfl v_at_price_many) (qa_cons (qv 2 rfl v_at_price_table) qa_nil)))) qa_nil))))))))))⟩
theorem i_indexF {a : Addr} {z : Int} {H : Hp} {Q : VK} {ns : List Int} (h : H a = some (.lst (ns.map V.int))) (hz : z ∈ ns) (q : ∀ j : Nat, ns[j]? = some z → (∀ i : Nat, i < j → ns[i]? ≠ some z) → Q (.int j) H) : hIndex a z H Q := by
  unfold hIndex
  have ex : ∃ j : Nat, ns[j]? = some z := List.mem_iff_getElem?.mp hz
  have key : ∀ n : Nat, (∃ j : Nat, j < n ∧ ns[j]? = some z) → ∃ j : Nat, ns[j]? = some z ∧ ∀ i : Nat, i < j → ns[i]? ≠ some z := by
    intro n
    induction n with
    | zero => rintro ⟨j, h, _⟩; omega
    | succ n ih =>
      rintro ⟨j, h1, h2⟩
      by_cases c : ∃ j : Nat, j < n ∧ ns[j]? = some z
      · exact ih c
      · exact ⟨j, h2, fun i hi hz => c ⟨i, by omega, hz⟩⟩
  obtain ⟨j, hj⟩ := ex
  obtain ⟨j, h1, h2⟩ := key (j + 1) ⟨j, by omega, hj⟩
  exact ⟨ns, j, h, h1, h2, q j h1 h2⟩
open M25 M31 in
def sp_at_price : Sp := fun vs H Q _ => ∃ (r : Addr) (ns : List Int) (price : Int), vs = [.ref r, .int price] ∧ H r = some (.lst (ns.map V.int)) ∧ 1 ≤ ns.length ∧ ns.length ≤ 900 ∧ (∀ n ∈ ns, 0 ≤ n ∧ n ≤ 1000000000000) ∧ 0 ≤ price ∧ price ≤ 10000000000000000000000000000000 ∧
  ∀ (p pc : Addr) (cost : Int) (m : Nat) (cs : List Nat) (b : Nat) (ev : List Int) (H' : Hp), Evens ns ev → CostAt ev price cost m → Chain (sq ns) ns.length m (m - 1) cs b → H p = none → H pc = none → p ≠ pc → Same H H' → H' p = some (.tup [.int cost, .int m, .ref pc]) → H' pc = some (.lst ((zs cs).map V.int)) → Q (.ref p) H'
open M25 M31 in
theorem ok_at_price (B : Bl mg) (D_even_table : Def P w K mg base 2 "even_table" ["row", "most"] sp_even_table) (D_least_evens : Def P w K mg base 1 "least_evens" ["table"] sp_least_evens) (D_first_even_cut : Def P w K mg base 2 "first_even_cut" ["row", "many", "table"] sp_first_even_cut) (F : Fun K "at_price" "at_price" s_at_price f fd) : FnOk P w K mg base CX0 3 f fd ["row", "price"] sp_at_price := by
  refine F.okq sc_at_price (fun vs H Q E h => ?_) (fun cdv A outer s H vs Q E hr h => ?_)
  · obtain ⟨r, ns, price, rfl, _⟩ := h; rfl
  obtain ⟨r, ns, price, rfl, hr0, n1, n2, hz, p0, p1, q⟩ := h
  refine ⟨t_at_price B D_even_table D_least_evens D_first_even_cut hr, ?_⟩
  refine i_lenI hr0 ⟨r, ns, ns.length, rfl, hr0, by omega, hz, n1, Nat.le_refl _, fun tb ps pss H1 hf s1 ll tab => ?_⟩
  refine ⟨tb, ps, pss, ns, rfl, ll, tab, n1, by omega, fun z ev H2 hz2 s2 e2 hE => ?_⟩
  have hel := hE.1
  refine ⟨⟨_, SqL.of e2⟩, comp_en1 (ev.map V.int) (fun i D σ H' ys => ys = ((costs ev price).take i).map V.int ∧ Same H2 H' ∧ ∃ o1 o2, σ = [o1, o2, some (.int price)]) ?_ ?_ ?_ ?_⟩
  · intro D H' hD s' e'
    exact ⟨rfl, s', _, _, rfl⟩
  · rintro i D σ H' ys hD ⟨_, s', _⟩
    exact SqL.of (s' _ _ e2)
  · rintro i x T D σ H' H'' ys hx hD ⟨rfl, s', o1, o2, rfl⟩ eD hT sT eT
    obtain ⟨z, rfl, hz1, _⟩ := vints_at hx
    have hi := (List.getElem?_eq_some_iff.mp hz1).1
    refine i_unp eT rfl (bT ⟨.inr ⟨by omega, by omega⟩, sT _ _ eD, sz_lt (by rw [List.length_map, List.length_take, costs_len]; omega), fun H6 k6 e6 => ⟨?_, (s'.trans sT).new k6 hD, _, _, rfl⟩⟩)
    rw [take_snoc (costs_at hi), List.map_append, List.getD_eq_getElem?_getD, hz1]; rfl
  · rintro D σ H3 ys hD ⟨rfl, s3, _⟩ e3
    rw [List.take_of_length_le (by rw [costs_len, List.length_map]; exact Nat.le_refl _)] at e3
    have hcl := costs_len ev price
    refine i_min (SqL.of e3) (fun z => by rw [z] at hcl; simp at hcl; omega) fun M hM hmin => ?_
    refine ⟨i_tyL e3, i_indexF e3 hM fun j hj hf => ?_⟩
    have hc := cost_of hmin hj hf
    have hm2 := hc.mn
    have s13 := s1.trans (s2.trans s3)
    refine ⟨r, tb, ps, pss, ns, j + 1, ns.length, rfl, s13 _ _ hr0, by omega, hz, ll.same (s2.trans s3), tab, by omega, by omega, Nat.le_refl _, fun pc cs b H4 hpc s4 e4 ch => ?_⟩
    refine i_newT (by show 3 ≤ sizeLine; decide) fun p H5 hp s5 e5 => ?_
    exact q p pc M (j + 1) cs b ev H5 hE hc ch ((s13.trans s4).free hp) (s13.free hpc) (ne_of_none e4 hp).symm (s13.trans (s4.trans s5)) e5 (s5 _ _ e4)

end
end K

set_option linter.all false
set_option Elab.async false
set_option maxRecDepth 100000
set_option maxHeartbeats 4000000
namespace K
open PySem L2
section
variable {C : Addr} {P : Program} {w : World} {K : PySem.W.Frag} {mg : Str → Option Value} {base : Heap} {f : Addr} {fd : FuncData}

abbrev s_law_ahead : Stmt := top 15
theorem sc_law_ahead : FnScope ["row", "found", "number"] ["row"] (defScope s_law_ahead) := ⟨rfl, rfl, rfl, by decide +kernel, rfl, by decide +kernel, by decide +kernel⟩
theorem l_law_ahead_found : Loc (defScope s_law_ahead) "found" := Or.inl (by kernel_rfl)
theorem l_law_ahead_number : Loc (defScope s_law_ahead) "number" := Or.inl (by kernel_rfl)
theorem v_law_ahead_found : Vis (defScope s_law_ahead) "found" := Or.inl (by kernel_rfl)
theorem v_law_ahead_number : Vis (defScope s_law_ahead) "number" := Or.inl (by kernel_rfl)
theorem v_law_ahead_row : Vis (defScope s_law_ahead) "row" := Or.inl (by kernel_rfl)
def t_law_ahead {cdv : Value} {A : Around} {outer : List Env} {s : Shared} {H : Hp} {E : XK} (B : Bl mg) (hr : Room 0 (A.deeper (PyProof.Rows.envOfC "_law_ahead" (defScope s_law_ahead) s.heap.objs.size f cdv))) :
    { t : TS // QB (cxOf CX0 P w K mg base ["row", "found", "number"] "_law_ahead" (defScope s_law_ahead) f cdv A outer s H E).nox (defBody s_law_ahead) t } :=
  ⟨_, (qb_cons (qs_set (i := 1) sc_law_ahead.nd rfl l_law_ahead_found (.inl rfl) (qe_lst (qa_cons qe_int qa_nil)))
    (qb_mid (qs_for PassesOwn.never rfl (ki_list (K := K) rfl (qv 0 rfl v_law_ahead_row)) (qg_name (i := 2) sc_law_ahead.nd rfl l_law_ahead_number (.inl rfl)) (qb_one (qs_ex (ke_m1 (K := K) rfl PySem.F.plainAttrs_list PySem.F.slot_list_append PySem.F.type_list_append mtApp (qv 1 rfl v_law_ahead_found) (qe_op opAdd (ke_ix (K := K) rfl (qv 1 rfl v_law_ahead_found) (qe_un unNeg qe_int) (fun _ _ => rfl)) (qv 2 rfl v_law_ahead_number))))))
    (qb_one (qs_ret (qv 1 rfl v_law_ahead_found)))))⟩
open M25 in
def sp_law_ahead : Sp := fun vs H Q _ => ∃ (r : Addr) (ns : List Int), vs = [.ref r] ∧ H r = some (.lst (ns.map V.int)) ∧ ns.length ≤ 1000 ∧ ∀ (p : Addr) (H' : Hp), H p = none → Same H H' → H' p = some (.lst ((pre ns (ns.length + 1)).map V.int)) → Q (.ref p) H'
open M25 in
theorem ok_law_ahead (B : Bl mg) (F : Fun K "_law_ahead" "_law_ahead" s_law_ahead f fd) : FnOk P w K mg base CX0 1 f fd ["row"] sp_law_ahead := by
  refine F.okq sc_law_ahead (fun vs H Q E h => ?_) (fun cdv A outer s H vs Q E hr h => ?_)
  · obtain ⟨r, ns, rfl, _⟩ := h; rfl
  obtain ⟨r, ns, rfl, hr0, hle, q⟩ := h
  refine ⟨t_law_ahead B  hr, ?_⟩
  refine i_newL (by show 1 ≤ sizeLine; decide) fun p H1 hp s1 e1 => ?_
  refine ⟨fun σ H' => Same H H' ∧ H' p = some (.lst ((pre ns (ns.length + 1)).map V.int)) ∧ ∃ o, σ = [some (.ref r), some (.ref p), o], ?_, ?_⟩
  · refine ⟨⟨_, SqL.of (s1 _ _ hr0)⟩, for_list (xs := ns.map V.int) (fun i σ H' => Same H H' ∧ H' p = some (.lst ((pre ns (i + 1)).map V.int)) ∧ ∃ o, σ = [some (.ref r), some (.ref p), o]) ?_ ?_ ?_ ?_⟩
    · refine ⟨s1, ?_, _, rfl⟩
      rw [e1, pre_map, S_zero]; rfl
    · rintro i σ H' _ ⟨s', _⟩
      exact SqL.of (s' _ _ hr0)
    · rintro i x σ H2 hx ⟨s2, e2, o, rfl⟩
      obtain ⟨z, rfl, hz, _⟩ := vints_at hx
      have hi : i < ns.length := (List.getElem?_eq_some_iff.mp hz).1
      have e2' := e2
      rw [pre_map] at e2'
      refine ⟨i_tyL e2, i_ix (.inl (SqL.of e2')) (atI_last _ _) ?_⟩
      refine i_appI e2 (by rw [pre_len]; omega) fun H3 k3 e3 => ?_
      refine ⟨s2.new k3 hp, ?_, _, rfl⟩
      rw [e3, pre_succ ns (i + 1), S_succ hz]
    · rintro σ H' ⟨s', e', o⟩
      rw [List.length_map] at e'
      exact ⟨s', e', o⟩
  · rintro σ H' ⟨s', e', o, rfl⟩
    exact q p H' hp s' e'

abbrev s_law_levels : Stmt := top 16
theorem sc_law_levels : FnScope ["row", "ahead", "found", "piece", "level", "there", "some", "place"] ["row"] (defScope s_law_levels) := ⟨rfl, rfl, rfl, by decide +kernel, rfl, by decide +kernel, by decide +kernel⟩
theorem l_law_levels_ahead : Loc (defScope s_law_levels) "ahead" := Or.inl (by kernel_rfl)
theorem l_law_levels_found : Loc (defScope s_law_levels) "found" := Or.inl (by kernel_rfl)
theorem l_law_levels_level : Loc (defScope s_law_levels) "level" := Or.inl (by kernel_rfl)
theorem l_law_levels_piece : Loc (defScope s_law_levels) "piece" := Or.inl (by kernel_rfl)
theorem l_law_levels_place : Loc (defScope s_law_levels) "place" := Or.inl (by kernel_rfl)
theorem l_law_levels_some : Loc (defScope s_law_levels) "some" := Or.inl (by kernel_rfl)
theorem l_law_levels_there : Loc (defScope s_law_levels) "there" := Or.inl (by kernel_rfl)
theorem v_law_levels_ahead : Vis (defScope s_law_levels) "ahead" := Or.inl (by kernel_rfl)
theorem v_law_levels_found : Vis (defScope s_law_levels) "found" := Or.inl (by kernel_rfl)
theorem v_law_levels_level : Vis (defScope s_law_levels) "level" := Or.inl (by kernel_rfl)
theorem v_law_levels_piece : Vis (defScope s_law_levels) "piece" := Or.inl (by kernel_rfl)
theorem v_law_levels_place : Vis (defScope s_law_levels) "place" := Or.inl (by kernel_rfl)
theorem v_law_levels_row : Vis (defScope s_law_levels) "row" := Or.inl (by kernel_rfl)
theorem v_law_levels_some : Vis (defScope s_law_levels) "some" := Or.inl (by kernel_rfl)
theorem v_law_levels_there : Vis (defScope s_law_levels) "there" := Or.inl (by kernel_rfl)
theorem g_law_levels__law_ahead : (defScope s_law_levels).names.lookup ("_law_ahead" : Str) = some NameKind.globalImplicit := by kernel_rfl
theorem g_law_levels_len : (defScope s_law_levels).names.lookup ("len" : Str) = some NameKind.globalImplicit := by kernel_rfl
theorem g_law_levels_min : (defScope s_law_levels).names.lookup ("min" : Str) = some NameKind.globalImplicit := by kernel_rfl
theorem g_law_levels_range : (defScope s_law_levels).names.lookup ("range" : Str) = some NameKind.globalImplicit := by kernel_rfl
def t_law_levels {cdv : Value} {A : Around} {outer : List Env} {s : Shared} {H : Hp} {E : XK} (B : Bl mg) (D_law_ahead : Def P w K mg base 1 "_law_ahead" ["row"] sp_law_ahead) (hr : Room 1 (A.deeper (PyProof.Rows.envOfC "_law_levels" (defScope s_law_levels) s.heap.objs.size f cdv))) :
    { t : TS // QB (cxOf CX0 P w K mg base ["row", "ahead", "found", "piece", "level", "there", "some", "place"] "_law_levels" (defScope s_law_levels) f cdv A outer s H E).nox (defBody s_law_levels) t } :=
  ⟨_, (qb_cons (qs_set (i := 1) sc_law_levels.nd rfl l_law_levels_ahead (.inl rfl) (qe_def D_law_ahead hr (by decide) g_law_levels__law_ahead (qa_cons (qv 0 rfl v_law_levels_row) qa_nil)))
    (qb_cons (qs_set (i := 2) sc_law_levels.nd rfl l_law_levels_found (.inl rfl) (qe_lst (qa_cons (qe_op opAdd (qe_lst (qa_cons qe_int qa_nil)) (qe_op opMul (qe_lst (qa_cons (qe_un unNeg qe_int) qa_nil)) (qe_cB (kLen (K := K) rfl) g_law_levels_len B.len boot_len' (qa_cons (qv 0 rfl v_law_levels_row) qa_nil)))) qa_nil)))
    (qb_mid (qs_for PassesOwn.never rfl (qi_r1 g_law_levels_range B.range (qa_cons (qe_cB (kLen (K := K) rfl) g_law_levels_len B.len boot_len' (qa_cons (qv 0 rfl v_law_levels_row) qa_nil)) qa_nil)) (qg_name (i := 3) sc_law_levels.nd rfl l_law_levels_piece (.inl rfl)) (qb_cons (qs_set (i := 4) sc_law_levels.nd rfl l_law_levels_level (.inl rfl) (qe_op opMul (qe_lst (qa_cons (qe_un unNeg qe_int) qa_nil)) (qe_cB (kLen (K := K) rfl) g_law_levels_len B.len boot_len' (qa_cons (qv 1 rfl v_law_levels_ahead) qa_nil))))
    (qb_mid (qs_for PassesOwn.never rfl (qi_r2 g_law_levels_range B.range (qa_cons (qe_op opAdd (qv 3 rfl v_law_levels_piece) qe_int) (qa_cons (qe_cB (kLen (K := K) rfl) g_law_levels_len B.len boot_len' (qa_cons (qv 1 rfl v_law_levels_ahead) qa_nil)) qa_nil))) (qg_name (i := 5) sc_law_levels.nd rfl l_law_levels_there (.inl rfl)) (qb_cons (qs_set (i := 6) sc_law_levels.nd rfl l_law_levels_some (.inl rfl) (qe_lst qa_nil))
    (qb_mid (qs_for PassesOwn.never rfl (qi_r2 g_law_levels_range B.range (qa_cons (qv 3 rfl v_law_levels_piece) (qa_cons (qv 5 rfl v_law_levels_there) qa_nil))) (qg_name (i := 7) sc_law_levels.nd rfl l_law_levels_place (.inl rfl)) (qb_one (qs_if (qt_cmp opGe (ke_ix (K := K) rfl (ke_ix (K := K) rfl (qv 2 rfl v_law_levels_found) (qe_un unNeg qe_int) (fun _ _ => rfl)) (qv 7 rfl v_law_levels_place) (fun _ _ => rfl)) qe_int) (qb_one (qs_ex (ke_m1 (K := K) rfl PySem.F.plainAttrs_list PySem.F.slot_list_append PySem.F.type_list_append mtApp (qv 6 rfl v_law_levels_some) (qe_op opAdd (ke_ix (K := K) rfl (ke_ix (K := K) rfl (qv 2 rfl v_law_levels_found) (qe_un unNeg qe_int) (fun _ _ => rfl)) (qv 7 rfl v_law_levels_place) (fun _ _ => rfl)) (qe_op opPow (qe_op opSub (ke_ix (K := K) rfl (qv 1 rfl v_law_levels_ahead) (qv 5 rfl v_law_levels_there) (fun _ _ => rfl)) (ke_ix (K := K) rfl (qv 1 rfl v_law_levels_ahead) (qv 7 rfl v_law_levels_place) (fun _ _ => rfl))) qe_int))))) qb_nil)))
    (qb_one (qs_asg (qe_cB (kMin (K := K) rfl rfl) g_law_levels_min B.min boot_min' (qa_cons (qv 6 rfl v_law_levels_some) qa_nil)) (qg_sub (qv 4 rfl v_law_levels_level) (qv 5 rfl v_law_levels_there) setM))))))
    (qb_one (qs_ex (ke_m1 (K := K) rfl PySem.F.plainAttrs_list PySem.F.slot_list_append PySem.F.type_list_append mtApp (qv 2 rfl v_law_levels_found) (qv 4 rfl v_law_levels_level)))))))
    (qb_one (qs_ret (ke_slice (K := K) rfl (qv 2 rfl v_law_levels_found) (qo_some qe_int) qo_none))))))⟩
open M25 in
def sp_law_levels : Sp := fun vs H Q _ => ∃ (r : Addr) (ns : List Int), vs = [.ref r] ∧ H r = some (.lst (ns.map V.int)) ∧ 1 ≤ ns.length ∧ ns.length ≤ 900 ∧ (∀ n ∈ ns, 0 ≤ n ∧ n ≤ 1000000000000) ∧
  ∀ (p : Addr) (ps : List Addr) (pss : List (List Int)) (H' : Hp), H p = none → Same H H' → H' p = some (.lst (ps.map V.ref)) → Paired (fun a l => H' a = some (.lst (List.map V.int l))) ps pss → pss.length = ns.length → (∀ k l, pss[k]? = some l → LevOk ns (k + 1) l) → Q (.ref p) H'
open M25 in
theorem ok_law_levels (B : Bl mg) (D_law_ahead : Def P w K mg base 1 "_law_ahead" ["row"] sp_law_ahead) (F : Fun K "_law_levels" "_law_levels" s_law_levels f fd) : FnOk P w K mg base CX0 2 f fd ["row"] sp_law_levels := by
  refine F.okq sc_law_levels (fun vs H Q E h => ?_) (fun cdv A outer s H vs Q E hr h => ?_)
  · obtain ⟨r, ns, rfl, _⟩ := h; rfl
  obtain ⟨r, ns, rfl, hr0, n1, n2, hz, q⟩ := h
  refine ⟨t_law_levels B D_law_ahead hr, ?_⟩
  refine ⟨r, ns, rfl, hr0, by omega, fun ah H1 hah s1 e1 => ?_⟩
  refine i_newL (by show 1 ≤ sizeLine; decide) fun p1 H2 hp1 s2 e2 => ?_
  refine i_newL (by show 1 ≤ sizeLine; decide) fun p2 H3 hp2 s3 e3 => ?_
  refine i_lenI (s3 _ _ (s2 _ _ (s1 _ _ hr0))) (i_rep1 (z := -1) e3 (by omega) (by omega) fun p3 H4 hp3 s4 e4 => ?_)
  refine i_cat (s4 _ _ (s3 _ _ e2)) e4 (sz_of (by simp; omega)) fun p5 H5 hp5 s5 e5 => ?_
  have e5' : H5 p5 = some (.lst ((0 :: List.replicate ns.length (-1)).map V.int)) := by rw [e5]; rfl
  refine i_newL (by show 1 ≤ sizeLine; decide) fun fo H6 hfo s6 e6 => ?_
  have s05 : Same H H5 := s1.trans (s2.trans (s3.trans (s4.trans s5)))
  have s06 : Same H H6 := s05.trans s6
  have ll0 : LL H6 fo [p5] [0 :: List.replicate ns.length (-1)] := by
    refine ⟨e6, by simp, ?_, .cons (s6 _ _ e5') .nil⟩
    have := ne_of_none e5 hfo
    simpa using this.symm
  have nah : ah ≠ fo := ne_of_none (s5 _ _ (s4 _ _ (s3 _ _ (s2 _ _ e1)))) hfo
  have eah6 := s6 _ _ (s5 _ _ (s4 _ _ (s3 _ _ (s2 _ _ e1))))
  have hfo0 : H fo = none := s05.free hfo
  refine ⟨fun σ H' => (∃ ps pss, Same H H' ∧ LL H' fo ps pss ∧ pss.length = ns.length + 1 ∧ (∀ k l, pss[k]? = some l → LevOk ns k l)) ∧ ∃ o3 o4 o5 o6 o7, σ = [some (.ref r), some (.ref ah), some (.ref fo), o3, o4, o5, o6, o7], ?_, ?_⟩
  · refine i_lenI (s06 _ _ hr0) ⟨⟨by omega, by omega⟩, for_range (fun i σ H' => (∃ ps pss, Same H H' ∧ LL H' fo ps pss ∧ pss.length = i + 1 ∧ (∀ k l, pss[k]? = some l → LevOk ns k l)) ∧ H' ah = some (.lst ((pre ns (ns.length + 1)).map V.int)) ∧ ∃ o3 o4 o5 o6 o7, σ = [some (.ref r), some (.ref ah), some (.ref fo), o3, o4, o5, o6, o7]) ?_ ?_ ?_⟩
    · refine ⟨⟨[p5], _, s06, ll0, rfl, fun k l e => ?_⟩, eah6, _, _, _, _, _, rfl⟩
      match k, e with
      | 0, e => simp at e; subst e; exact lev_zero
      | k + 1, e => simp at e
    · rintro i σ H7 hi ⟨⟨ps, pss, s7, ll, hpl, hok⟩, eah, o3, o4, o5, o6, o7, rfl⟩
      have hi' : i < ns.length := by omega
      have hlen := ll.len
      have hne : ps ≠ [] := fun z => by rw [z] at hlen; simp at hlen; omega
      have hne2 : pss ≠ [] := fun z => by rw [z] at hpl; simp at hpl
      have eps := List.dropLast_concat_getLast hne
      have epp := List.dropLast_concat_getLast hne2
      generalize ps.dropLast = ini at eps
      generalize ps.getLast hne = la at eps
      generalize pss.dropLast = inis at epp
      generalize pss.getLast hne2 = l at epp
      subst eps
      subst epp
      have hil : inis.length = i := by simp at hpl; omega
      have hl : LevOk ns i l := hok i l (by rw [List.getElem?_append_right (by omega), hil]; simp)
      have ela := (pair_last ll.it).1
      have hll := hl.1
      -- level
      refine i_newL (by show 1 ≤ sizeLine; decide) fun q1 H8 hq1 s8 e8 => ?_
      refine i_lenI (s8 _ _ eah) (i_rep1 (z := -1) e8 (by rw [pre_len]; omega) (by rw [pre_len]; omega) fun lv H9 hlv s9 e9 => ?_)
      rw [pre_len] at e9
      have e9' : H9 lv = some (.lst ((List.replicate (ns.length + 1) (-1)).map V.int)) := e9
      have s79 := s8.trans s9
      have hlv7 : H7 lv = none := s8.free hlv
      refine ⟨fun σ H' => Same H7 H' ∧ (∃ ys, H' lv = some (.lst (ys.map V.int)) ∧ LevTo ns (i + 1) (ns.length + 1) ys) ∧ ∃ o5 o6 o7, σ = [some (.ref r), some (.ref ah), some (.ref fo), some (.int (0 + (i : Int))), some (.ref lv), o5, o6, o7], ?_, ?_⟩
      · refine i_lenI (s79 _ _ eah) ⟨by rw [pre_len]; exact ⟨by omega, by omega, by omega, by omega⟩, for_range (fun j σ H' => Same H7 H' ∧ (∃ ys, H' lv = some (.lst (ys.map V.int)) ∧ LevTo ns (i + 1) (i + 1 + j) ys) ∧ ∃ o5 o6 o7, σ = [some (.ref r), some (.ref ah), some (.ref fo), some (.int (0 + (i : Int))), some (.ref lv), o5, o6, o7]) ?_ ?_ ?_⟩
        · exact ⟨s79, ⟨_, e9', LevTo.none⟩, _, _, _, rfl⟩
        · rintro j σ H10 hj ⟨s10, ⟨ys, e10, hys⟩, o5, o6, o7, rfl⟩
          rw [pre_len] at hj
          have hj' : i + 1 + j ≤ ns.length := by omega
          refine i_newL (by show 0 ≤ sizeLine; decide) fun so H11 hso s11 e11 => ?_
          have s711 := s10.trans s11
          have hso7 : H7 so = none := s10.free hso
          have nso : so ≠ lv := (ne_of_none e10 hso).symm
          refine ⟨fun σ H' => Same H7 H' ∧ H' lv = some (.lst (ys.map V.int)) ∧ (∃ vs, H' so = some (.lst (vs.map V.int)) ∧ Some_ ns l i (i + 1 + j) (i + 1 + j) vs) ∧ ∃ o7, σ = [some (.ref r), some (.ref ah), some (.ref fo), some (.int (0 + (i : Int))), some (.ref lv), some (.int (0 + (i : Int) + 1 + (j : Int))), some (.ref so), o7], ?_, ?_⟩
          · refine ⟨⟨by omega, by omega, by omega, by omega⟩, for_range (fun t σ H' => Same H7 H' ∧ H' lv = some (.lst (ys.map V.int)) ∧ (∃ vs, H' so = some (.lst (vs.map V.int)) ∧ vs.length ≤ t ∧ Some_ ns l i (i + 1 + j) (i + t) vs) ∧ ∃ o7, σ = [some (.ref r), some (.ref ah), some (.ref fo), some (.int (0 + (i : Int))), some (.ref lv), some (.int (0 + (i : Int) + 1 + (j : Int))), some (.ref so), o7]) ?_ ?_ ?_⟩
            · exact ⟨s711, s11 _ _ e10, ⟨[], e11, by simp, Some_.start _ _ _ _⟩, _, rfl⟩
            · rintro t σ H12 ht ⟨s12, e12, ⟨vs, e12', hvl, hvs⟩, o, rfl⟩
              have ht' : t < j + 1 := by omega
              have efo := s12 _ _ ll.at_
              rw [List.map_append] at efo
              have ela12 := s12 _ _ ela
              have eah12 := s12 _ _ eah
              have et : (0 + (i : Int) + (t : Int)).toNat = i + t := by omega
              refine i_ix (.inl (SqL.of efo)) (atI_last _ _) (i_ixI ela12 (by omega) (by omega) ?_)
              rw [et]
              refine dec2 (fun c => ?_) (fun c => ?_)
              · refine ⟨i_tyL e12', i_ix (.inl (SqL.of efo)) (atI_last _ _) (i_ixI ela12 (by omega) (by omega) ?_)⟩
                rw [et]
                refine i_ixN (i + 1 + j) eah12 (by omega) (by rw [List.getElem?_map, pre_at (by omega)]; rfl) (i_ixN (i + t) eah12 (by omega) (by rw [List.getElem?_map, pre_at (by omega)]; rfl) ?_)
                refine ⟨⟨by decide, by decide, sq_small (by omega) hz (by omega) (by omega)⟩, ?_⟩
                refine i_appI e12' (by omega) fun H13 k13 e13 => ?_
                exact ⟨s12.new k13 hso7, k13.one (Ne.symm nso) e12, ⟨_, e13, by simp; omega, hvs.put (by omega) c⟩, _, rfl⟩
              · exact ⟨s12, e12, ⟨vs, e12', by omega, hvs.skip c⟩, _, rfl⟩
            · rintro σ H12 ⟨s12, e12, ⟨vs, e12', hvl, hvs⟩, o, rfl⟩
              have et : i + (0 + (i : Int) + 1 + (j : Int) - (0 + (i : Int))).toNat = i + 1 + j := by omega
              rw [et] at hvs
              exact ⟨s12, e12, ⟨vs, e12', hvs⟩, o, rfl⟩
          · rintro σ H12 ⟨s12, e12, ⟨vs, e12', hvs⟩, o, rfl⟩
            refine i_min (SqL.of e12') (hvs.ne (by omega) hj' hl) fun M hM hmin => ?_
            have hyl := hys.1
            refine i_set (i + 1 + j) e12 (by omega) (by rw [List.length_map]; omega) fun H13 k13 e13 => ?_
            refine ⟨s12.new k13 hlv7, ⟨ys.set (i + 1 + j) M, by rw [e13, List.map_set], hys.set (by omega) (hvs.least hj' hl hM hmin)⟩, _, _, _, rfl⟩
        · rintro σ H' ⟨h1, ⟨ys, h2, h3⟩, o5, o6, o7, rfl⟩
          have et : i + 1 + (((pre ns (ns.length + 1)).length : Int) - (0 + (i : Int) + 1)).toNat = ns.length + 1 := by rw [pre_len]; omega
          rw [et] at h3
          exact ⟨h1, ⟨ys, h2, h3⟩, o5, o6, o7, rfl⟩
      · rintro σ H10 ⟨s10, ⟨ys, e10, hys⟩, o5, o6, o7, rfl⟩
        have hpl' : (ini ++ [la]).length = i + 1 := by rw [hlen]; simp; omega
        refine ⟨i_tyL (s10 _ _ ll.at_), i_app (s10 _ _ ll.at_) (sz_lt (by rw [List.length_map]; omega)) fun H11 k11 e11 => ?_⟩
        refine ⟨⟨_, _, (s7.trans s10).new k11 hfo0, ll.add hlv7 s10 e10 k11 e11, by simp; omega, fun k m e => ?_⟩, k11.one nah (s10 _ _ eah), _, _, _, _, _, rfl⟩
        by_cases hk : k < i + 1
        · rw [List.getElem?_append_left (by simp; omega)] at e; exact hok k m e
        · rw [List.getElem?_append_right (by simp; omega)] at e
          by_cases hk2 : k = i + 1
          · subst hk2
            have : i + 1 - (inis ++ [l]).length = 0 := by simp; omega
            rw [this] at e; simp at e; subst e
            exact LevTo.all (by omega) hys
          · rw [List.getElem?_eq_none (by simp; omega)] at e; cases e
    · rintro σ H' ⟨⟨ps, pss, h1, h2, h3, h4⟩, _, o⟩
      exact ⟨⟨ps, pss, h1, h2, by omega, h4⟩, o⟩
  · rintro σ H7 ⟨⟨ps, pss, s7, ll, hpl, hok⟩, o3, o4, o5, o6, o7, rfl⟩
    have hlen := ll.len
    cases ps with
    | nil => simp at hlen; omega
    | cons p0 ps =>
    cases pss with
    | nil => simp at hpl
    | cons l0 pss =>
    refine i_sl (SqL.of ll.at_) fun z H8 hz8 s8 e8 => ?_
    rw [List.map_cons, cut_tail] at e8
    have it := ll.it
    cases it with
    | cons hd tl =>
    refine q z ps pss H8 (s7.free hz8) (s7.trans s8) e8 (pair_imp tl fun a ha b e => s8 _ _ e) (by simp at hpl; omega) fun k l e => ?_
    exact hok (k + 1) l (by simpa using e)

end
end K

set_option linter.all false
set_option Elab.async false
set_option maxRecDepth 100000
set_option maxHeartbeats 4000000
namespace K
open PySem L2
section
variable {C : Addr} {P : Program} {w : World} {K : PySem.W.Frag} {mg : Str → Option Value} {base : Heap} {f : Addr} {fd : FuncData}

abbrev s_law_due : Stmt := top 17
theorem sc_law_due : FnScope ["row", "price", "ahead", "found", "there", "some", "place", "cost", "many"] ["row", "price"] (defScope s_law_due) := ⟨rfl, rfl, rfl, by decide +kernel, rfl, by decide +kernel, by decide +kernel⟩
theorem l_law_due_ahead : Loc (defScope s_law_due) "ahead" := Or.inl (by kernel_rfl)
theorem l_law_due_cost : Loc (defScope s_law_due) "cost" := Or.inl (by kernel_rfl)
theorem l_law_due_found : Loc (defScope s_law_due) "found" := Or.inl (by kernel_rfl)
theorem l_law_due_many : Loc (defScope s_law_due) "many" := Or.inl (by kernel_rfl)
theorem l_law_due_place : Loc (defScope s_law_due) "place" := Or.inl (by kernel_rfl)
theorem l_law_due_some : Loc (defScope s_law_due) "some" := Or.inl (by kernel_rfl)
theorem l_law_due_there : Loc (defScope s_law_due) "there" := Or.inl (by kernel_rfl)
theorem v_law_due_ahead : Vis (defScope s_law_due) "ahead" := Or.inl (by kernel_rfl)
theorem v_law_due_cost : Vis (defScope s_law_due) "cost" := Or.inl (by kernel_rfl)
theorem v_law_due_found : Vis (defScope s_law_due) "found" := Or.inl (by kernel_rfl)
theorem v_law_due_many : Vis (defScope s_law_due) "many" := Or.inl (by kernel_rfl)
theorem v_law_due_place : Vis (defScope s_law_due) "place" := Or.inl (by kernel_rfl)
theorem v_law_due_price : Vis (defScope s_law_due) "price" := Or.inl (by kernel_rfl)
theorem v_law_due_row : Vis (defScope s_law_due) "row" := Or.inl (by kernel_rfl)
theorem v_law_due_some : Vis (defScope s_law_due) "some" := Or.inl (by kernel_rfl)
theorem v_law_due_there : Vis (defScope s_law_due) "there" := Or.inl (by kernel_rfl)
theorem g_law_due__law_ahead : (defScope s_law_due).names.lookup ("_law_ahead" : Str) = some NameKind.globalImplicit := by kernel_rfl
theorem g_law_due_len : (defScope s_law_due).names.lookup ("len" : Str) = some NameKind.globalImplicit := by kernel_rfl
theorem g_law_due_min : (defScope s_law_due).names.lookup ("min" : Str) = some NameKind.globalImplicit := by kernel_rfl
theorem g_law_due_range : (defScope s_law_due).names.lookup ("range" : Str) = some NameKind.globalImplicit := by kernel_rfl
def t_law_due {cdv : Value} {A : Around} {outer : List Env} {s : Shared} {H : Hp} {E : XK} (B : Bl mg) (D_law_ahead : Def P w K mg base 1 "_law_ahead" ["row"] sp_law_ahead) (hr : Room 1 (A.deeper (PyProof.Rows.envOfC "_law_due" (defScope s_law_due) s.heap.objs.size f cdv))) :
    { t : TS // QB (cxOf CX0 P w K mg base ["row", "price", "ahead", "found", "there", "some", "place", "cost", "many"] "_law_due" (defScope s_law_due) f cdv A outer s H E).nox (defBody s_law_due) t } :=
  ⟨_, (qb_cons (qs_set (i := 2) sc_law_due.nd rfl l_law_due_ahead (.inl rfl) (qe_def D_law_ahead hr (by decide) g_law_due__law_ahead (qa_cons (qv 0 rfl v_law_due_row) qa_nil)))
    (qb_cons (qs_set (i := 3) sc_law_due.nd rfl l_law_due_found (.inl rfl) (qe_lst (qa_cons (qe_tup (qa_cons qe_int (qa_cons qe_int qa_nil))) qa_nil)))
    (qb_mid (qs_for PassesOwn.never rfl (qi_r2 g_law_due_range B.range (qa_cons qe_int (qa_cons (qe_cB (kLen (K := K) rfl) g_law_due_len B.len boot_len' (qa_cons (qv 2 rfl v_law_due_ahead) qa_nil)) qa_nil))) (qg_name (i := 4) sc_law_due.nd rfl l_law_due_there (.inl rfl)) (qb_cons (qs_set (i := 5) sc_law_due.nd rfl l_law_due_some (.inl rfl) (qe_lst qa_nil))
    (qb_mid (qs_for PassesOwn.never rfl (qi_r1 g_law_due_range B.range (qa_cons (qv 4 rfl v_law_due_there) qa_nil)) (qg_name (i := 6) sc_law_due.nd rfl l_law_due_place (.inl rfl)) (qb_cons (qs_asg (ke_ix (K := K) rfl (qv 3 rfl v_law_due_found) (qv 6 rfl v_law_due_place) (fun _ _ => rfl)) (kg_tup (K := K) rfl rfl (qgs_cons (qg_name (i := 7) sc_law_due.nd rfl l_law_due_cost (.inl rfl)) (qgs_cons (qg_name (i := 8) sc_law_due.nd rfl l_law_due_many (.inl rfl)) qgs_nil))))
    (qb_one (qs_ex (ke_m1 (K := K) rfl PySem.F.plainAttrs_list PySem.F.slot_list_append PySem.F.type_list_append mtApp (qv 5 rfl v_law_due_some) (qe_tup (qa_cons (qe_op opAdd (qe_op opAdd (qv 7 rfl v_law_due_cost) (qe_op opPow (qe_op opSub (ke_ix (K := K) rfl (qv 2 rfl v_law_due_ahead) (qv 4 rfl v_law_due_there) (fun _ _ => rfl)) (ke_ix (K := K) rfl (qv 2 rfl v_law_due_ahead) (qv 6 rfl v_law_due_place) (fun _ _ => rfl))) qe_int)) (qv 1 rfl v_law_due_price)) (qa_cons (qe_op opAdd (qv 8 rfl v_law_due_many) qe_int) qa_nil))))))))
    (qb_one (qs_ex (ke_m1 (K := K) rfl PySem.F.plainAttrs_list PySem.F.slot_list_append PySem.F.type_list_append mtApp (qv 3 rfl v_law_due_found) (qe_cB (kMinT hr rfl) g_law_due_min B.min boot_min' (qa_cons (qv 5 rfl v_law_due_some) qa_nil))))))))
    (qb_one (qs_ret (ke_ix (K := K) rfl (qv 3 rfl v_law_due_found) (qe_un unNeg qe_int) (fun _ _ => rfl)))))))⟩
open M25 M31 M28 in
def sp_law_due : Sp := fun vs H Q _ => ∃ (r : Addr) (ns : List Int) (price : Int), vs = [.ref r, .int price] ∧ H r = some (.lst (ns.map V.int)) ∧ 1 ≤ ns.length ∧ ns.length ≤ 120 ∧ (∀ n ∈ ns, 0 ≤ n ∧ n ≤ 1000000000000) ∧ 0 ≤ price ∧
  ∀ (t : Addr) (C : Int) (K : Nat) (H' : Hp), DL (sq ns) price ns.length C K → H t = none → Same H H' → H' t = some (.tup [.int C, .int K]) → Q (.ref t) H'
open M25 M31 M28 in
theorem ok_law_due (B : Bl mg) (D_law_ahead : Def P w K mg base 1 "_law_ahead" ["row"] sp_law_ahead) (F : Fun K "_law_due" "_law_due" s_law_due f fd) : FnOk P w K mg base CX0 2 f fd ["row", "price"] sp_law_due := by
  refine F.okq sc_law_due (fun vs H Q E h => ?_) (fun cdv A outer s H vs Q E hr h => ?_)
  · obtain ⟨r, ns, price, rfl, _⟩ := h; rfl
  obtain ⟨r, ns, price, rfl, hr0, n1, hle, hz, p0, q⟩ := h
  refine ⟨t_law_due B D_law_ahead hr, ?_⟩
  refine ⟨r, ns, rfl, hr0, by omega, fun ah H1 hah s1 e1 => ?_⟩
  refine i_newT (by show 2 ≤ sizeLine; decide) fun t0 H2 ht0 s2 e2 => i_newL (by show 1 ≤ sizeLine; decide) fun fo H3 hfo s3 e3 => ?_
  have s13 := s1.trans (s2.trans s3)
  have hfo0 : H fo = none := s1.free (s2.free hfo)
  have eah3 := s3 _ _ (s2 _ _ e1)
  have naf : ah ≠ fo := ne_of_none (s2 _ _ e1) hfo
  have tup_ne : ∀ {Hx : Hp} {u : Addr} {xs ys : List V} {c : Addr}, Hx u = some (.tup xs) → Hx c = some (.lst ys) → u ≠ c := fun h1 h2 z => by rw [z, h2] at h1; cases h1
  refine ⟨fun σ H' => Same H H' ∧ (∃ ts : List Addr, H' fo = some (.lst (ts.map V.ref)) ∧ ts.length = ns.length + 1 ∧ ∀ (j : Nat) a, ts[j]? = some a → H a = none ∧ ∃ C K, H' a = some (.tup [.int C, .int ((K : Nat) : Int)]) ∧ DL (sq ns) price j C K) ∧ ∃ o4 o5 o6 o7 o8, σ = [some (.ref r), some (.int price), some (.ref ah), some (.ref fo), o4, o5, o6, o7, o8], ?_, ?_⟩
  · refine i_lenI eah3 ?_
    rw [pre_len]
    refine ⟨⟨by omega, by omega, by omega, by omega⟩, for_range (fun i σ H' => Same H H' ∧ H' ah = some (.lst ((pre ns (ns.length + 1)).map V.int)) ∧ (∃ ts : List Addr, H' fo = some (.lst (ts.map V.ref)) ∧ ts.length = i + 1 ∧ ∀ (j : Nat) a, ts[j]? = some a → H a = none ∧ ∃ C K, H' a = some (.tup [.int C, .int ((K : Nat) : Int)]) ∧ DL (sq ns) price j C K) ∧ ∃ o4 o5 o6 o7 o8, σ = [some (.ref r), some (.int price), some (.ref ah), some (.ref fo), o4, o5, o6, o7, o8]) ?_ ?_ ?_⟩
    · refine ⟨s13, eah3, ⟨[t0], e3, rfl, fun j a ha => ?_⟩, _, _, _, _, _, rfl⟩
      cases j with
      | zero =>
        obtain rfl : t0 = a := by simpa using ha
        exact ⟨s1.free ht0, 0, 0, s3 _ _ e2, dl_zero p0⟩
      | succ j => simp at ha
    · rintro i σ H4 hi ⟨s4, eah, ⟨ts, efo, htl, hts⟩, o4, o5, o6, o7, o8, rfl⟩
      have hi' : i < ns.length := by omega
      have et : (1 : Int) + (i : Int) = ((i + 1 : Nat) : Int) := by omega
      rw [et]
      refine i_newL (by show 0 ≤ sizeLine; decide) fun so H5 hso s5 e5 => ?_
      have ex : ∀ j : Nat, ∃ gk : Int × Nat, ∀ a, ts[j]? = some a → H4 a = some (.tup [.int gk.1, .int ((gk.2 : Nat) : Int)]) ∧ DL (sq ns) price j gk.1 gk.2 := fun j => by
        cases hj : ts[j]? with
        | none => exact ⟨(0, 0), fun t h => nomatch h⟩
        | some a =>
          obtain ⟨_, C, K, f1, f2⟩ := hts j a hj
          exact ⟨(C, K), fun a' h => by cases h; exact ⟨f1, f2⟩⟩
      obtain ⟨f, hf⟩ := Classical.axiomOfChoice ex
      have nso : ah ≠ so := ne_of_none eah hso
      have nsf : fo ≠ so := ne_of_none efo hso
      have hsoH : H so = none := s4.free hso
      refine ⟨fun σ H' => Kp [so] H5 H' ∧ (∃ us : List Addr, H' so = some (.lst (us.map V.ref)) ∧ us.length = i + 1 ∧ ∀ (j : Nat) u, us[j]? = some u → H u = none ∧ H' u = some (.tup [.int ((f j).1 + sq ns j (i + 1) + price), .int (((f j).2 + 1 : Nat) : Int)])) ∧ ∃ o6 o7 o8, σ = [some (.ref r), some (.int price), some (.ref ah), some (.ref fo), some (.int ((i + 1 : Nat) : Int)), some (.ref so), o6, o7, o8], ?_, ?_⟩
      · refine ⟨⟨by omega, by omega⟩, for_range (fun j σ H' => Kp [so] H5 H' ∧ (∃ us : List Addr, H' so = some (.lst (us.map V.ref)) ∧ us.length = j ∧ ∀ (j : Nat) u, us[j]? = some u → H u = none ∧ H' u = some (.tup [.int ((f j).1 + sq ns j (i + 1) + price), .int (((f j).2 + 1 : Nat) : Int)])) ∧ ∃ o6 o7 o8, σ = [some (.ref r), some (.int price), some (.ref ah), some (.ref fo), some (.int ((i + 1 : Nat) : Int)), some (.ref so), o6, o7, o8]) ?_ ?_ ?_⟩
        · exact ⟨Kp.refl _ _, ⟨[], e5, rfl, by simp⟩, _, _, _, rfl⟩
        · rintro j σ H6 hj ⟨k6, ⟨us, eso, hul, hus⟩, o6, o7, o8, rfl⟩
          have hj' : j < i + 1 := by omega
          rw [Int.zero_add]
          have hta : ts[j]? = some (ts[j]'(by omega)) := List.getElem?_eq_getElem (by omega)
          obtain ⟨g1, g2⟩ := hf j _ hta
          have efo6 := k6.one nsf (s5 _ _ efo)
          have eah6 := k6.one nso (s5 _ _ eah)
          have ta6 := k6.one (tup_ne (s5 _ _ g1) e5) (s5 _ _ g1)
          refine i_ixN j efo6 rfl (map_ref_at hta) (i_unp ta6 rfl ?_)
          refine ⟨i_tyL eso, i_ixN (i + 1) eah6 rfl (by rw [List.getElem?_map, pre_at (by omega)]; rfl) (i_ixN j eah6 rfl (by rw [List.getElem?_map, pre_at (by omega)]; rfl) ?_)⟩
          refine ⟨⟨by decide, by decide, sq_small (by omega) hz (by omega) (by omega)⟩, ?_⟩
          refine i_newT (by show 2 ≤ sizeLine; decide) fun u H7 hu s7 e7 => ?_
          have eso7 := s7 _ _ eso
          have nus : u ≠ so := tup_ne e7 eso7
          refine i_app eso7 (sz_lt (by rw [List.length_map]; omega)) fun H8 k8 e8 => ?_
          have huH : H u = none := s4.free (s5.free (k6.free (by simpa using nus) hu))
          refine ⟨fun b o n qq => k8 b o n (s7 b o (k6 b o n qq)), ⟨us ++ [u], by rw [e8, List.map_append]; rfl, by simp [hul], fun j' u' hu' => ?_⟩, _, _, _, rfl⟩
          by_cases hjt : j' < us.length
          · rw [List.getElem?_append_left hjt] at hu'
            obtain ⟨w1, w2⟩ := hus j' u' hu'
            exact ⟨w1, k8.one (tup_ne (s7 _ _ w2) eso7) (s7 _ _ w2)⟩
          · rw [List.getElem?_append_right (by omega)] at hu'
            have hj0 : j' - us.length = 0 := by
              by_cases h0 : j' - us.length = 0
              · exact h0
              · rw [List.getElem?_eq_none (by simp; omega)] at hu'; cases hu'
            rw [hj0] at hu'
            obtain rfl : u = u' := by simpa using hu'
            have ej : j' = j := by omega
            subst ej
            refine ⟨huH, k8.one nus ?_⟩
            rw [e7]; rfl
        · rintro σ H' ⟨h1, ⟨us, h2, h3, h4⟩, o⟩
          exact ⟨h1, ⟨us, h2, by omega, h4⟩, o⟩
      · rintro σ H6 ⟨k6, ⟨us, eso, hul, hus⟩, o6, o7, o8, rfl⟩
        have efo6 := k6.one nsf (s5 _ _ efo)
        have eah6 := k6.one nso (s5 _ _ eah)
        have s46 : Same H4 H6 := s5.new k6 hso
        refine ⟨i_tyL efo6, i_minT (fun j => [.n ((f j).1 + sq ns j (i + 1) + price), .n (((f j).2 + 1 : Nat) : Int)]) eso (fun z => by rw [z] at hul; simp at hul) (fun j u hu => ⟨_, (hus j u hu).2, .cons rfl (.cons rfl .nil)⟩) (fun a b _ _ _ => ⟨trivial, fun _ => ⟨trivial, fun _ => trivial⟩⟩) fun k u hu hmin => ?_⟩
        have hk : k < us.length := (List.getElem?_eq_some_iff.mp hu).1
        obtain ⟨w1, w2⟩ := hus k u hu
        have hdl : DL (sq ns) price (i + 1) ((f k).1 + sq ns k (i + 1) + price) ((f k).2 + 1) := by
          refine dl_step (t := i + 1) (g := fun j => (f j).1) (h := fun j => (f j).2) (by omega) (fun qq hqq => (hf qq _ (List.getElem?_eq_getElem (by omega))).2) (q0 := k) (by omega) fun qq hqq => ?_
          have h := hmin qq (by omega)
          unfold ltT at h
          simp only [lexB] at h
          show (f k).1 + sq ns k (i + 1) + price < (f qq).1 + sq ns qq (i + 1) + price ∨ ((f k).1 + sq ns k (i + 1) + price = (f qq).1 + sq ns qq (i + 1) + price ∧ (f k).2 + 1 ≤ (f qq).2 + 1)
          generalize (f k).1 + sq ns k (i + 1) + price = ck at h ⊢
          generalize (f qq).1 + sq ns qq (i + 1) + price = cq at h ⊢
          by_cases e : cq = ck
          · rw [if_pos (by rw [e])] at h
            right
            refine ⟨e.symm, ?_⟩
            by_cases e2 : (((f qq).2 + 1 : Nat) : Int) = (((f k).2 + 1 : Nat) : Int)
            · omega
            · rw [if_neg (fun z => e2 (by injection z))] at h
              have h' : decide ((((f qq).2 + 1 : Nat) : Int) < (((f k).2 + 1 : Nat) : Int)) = false := h
              simp at h'
              omega
          · rw [if_neg (fun z => e (by injection z))] at h
            have h' : decide (cq < ck) = false := h
            simp at h'
            left; omega
        refine i_app efo6 (sz_lt (by rw [List.length_map]; omega)) fun H7 k7 e7 => ?_
        have s06 := s4.trans s46
        refine ⟨s06.new k7 hfo0, k7.one naf eah6, ⟨ts ++ [u], by rw [e7, List.map_append]; rfl, by simp [htl], fun j a ha => ?_⟩, _, _, _, _, _, rfl⟩
        by_cases hjt : j < ts.length
        · rw [List.getElem?_append_left hjt] at ha
          obtain ⟨v1, C, K, v2, v3⟩ := hts j a ha
          exact ⟨v1, C, K, k7.one (tup_ne (s46 _ _ v2) efo6) (s46 _ _ v2), v3⟩
        · rw [List.getElem?_append_right (by omega)] at ha
          have hj0 : j - ts.length = 0 := by
            by_cases h0 : j - ts.length = 0
            · exact h0
            · rw [List.getElem?_eq_none (by simp; omega)] at ha; cases ha
          rw [hj0] at ha
          obtain rfl : u = a := by simpa using ha
          have ej : j = i + 1 := by omega
          subst ej
          exact ⟨w1, _, _, k7.one (tup_ne w2 efo6) w2, hdl⟩
    · rintro σ H' ⟨h1, _, ⟨ts, h2, h3, h4⟩, o⟩
      exact ⟨h1, ⟨ts, h2, by omega, h4⟩, o⟩
  · rintro σ H4 ⟨s4, ⟨ts, efo, htl, hts⟩, o4, o5, o6, o7, o8, rfl⟩
    obtain ⟨ini, y, hiy⟩ : ∃ ini y, ts = ini ++ [y] := ⟨ts.dropLast, ts.getLast (fun z => by rw [z] at htl; simp at htl), (List.dropLast_concat_getLast _).symm⟩
    have hy : ts[ns.length]? = some y := by
      rw [hiy]
      have : ini.length = ns.length := by rw [hiy] at htl; simpa using htl
      rw [← this]; simp
    obtain ⟨w1, C, K, w2, w3⟩ := hts _ y hy
    rw [hiy, List.map_append] at efo
    exact i_ix (.inl (SqL.of efo)) (atI_last _ _) (q y C K H4 w3 w1 s4 w2)

end
end K

set_option linter.all false
set_option Elab.async false
set_option maxRecDepth 100000
set_option maxHeartbeats 4000000
namespace K
open PySem L2
section
variable {C : Addr} {P : Program} {w : World} {K : PySem.W.Frag} {mg : Str → Option Value} {base : Heap} {f : Addr} {fd : FuncData}

abbrev s_law_first : Stmt := top 18
theorem sc_law_first : FnScope ["row", "many", "even", "behind_levels", "ahead", "last", "cut", "left", "place", "later", "there", "number"] ["row", "many", "even"] (defScope s_law_first) := ⟨rfl, rfl, rfl, by decide +kernel, rfl, by decide +kernel, by decide +kernel⟩
theorem l_law_first_ahead : Loc (defScope s_law_first) "ahead" := Or.inl (by kernel_rfl)
theorem l_law_first_behind_levels : Loc (defScope s_law_first) "behind_levels" := Or.inl (by kernel_rfl)
theorem l_law_first_cut : Loc (defScope s_law_first) "cut" := Or.inl (by kernel_rfl)
theorem l_law_first_even : Loc (defScope s_law_first) "even" := Or.inl (by kernel_rfl)
theorem l_law_first_last : Loc (defScope s_law_first) "last" := Or.inl (by kernel_rfl)
theorem l_law_first_later : Loc (defScope s_law_first) "later" := Or.inl (by kernel_rfl)
theorem l_law_first_left : Loc (defScope s_law_first) "left" := Or.inl (by kernel_rfl)
theorem l_law_first_number : Loc (defScope s_law_first) "number" := Or.inl (by kernel_rfl)
theorem l_law_first_place : Loc (defScope s_law_first) "place" := Or.inl (by kernel_rfl)
theorem l_law_first_there : Loc (defScope s_law_first) "there" := Or.inl (by kernel_rfl)
theorem v_law_first_ahead : Vis (defScope s_law_first) "ahead" := Or.inl (by kernel_rfl)
theorem v_law_first_behind_levels : Vis (defScope s_law_first) "behind_levels" := Or.inl (by kernel_rfl)
theorem v_law_first_cut : Vis (defScope s_law_first) "cut" := Or.inl (by kernel_rfl)
theorem v_law_first_even : Vis (defScope s_law_first) "even" := Or.inl (by kernel_rfl)
theorem v_law_first_last : Vis (defScope s_law_first) "last" := Or.inl (by kernel_rfl)
theorem v_law_first_later : Vis (defScope s_law_first) "later" := Or.inl (by kernel_rfl)
theorem v_law_first_left : Vis (defScope s_law_first) "left" := Or.inl (by kernel_rfl)
theorem v_law_first_many : Vis (defScope s_law_first) "many" := Or.inl (by kernel_rfl)
theorem v_law_first_number : Vis (defScope s_law_first) "number" := Or.inl (by kernel_rfl)
theorem v_law_first_place : Vis (defScope s_law_first) "place" := Or.inl (by kernel_rfl)
theorem v_law_first_row : Vis (defScope s_law_first) "row" := Or.inl (by kernel_rfl)
theorem v_law_first_there : Vis (defScope s_law_first) "there" := Or.inl (by kernel_rfl)
theorem g_law_first__law_ahead : (defScope s_law_first).names.lookup ("_law_ahead" : Str) = some NameKind.globalImplicit := by kernel_rfl
theorem g_law_first__law_levels : (defScope s_law_first).names.lookup ("_law_levels" : Str) = some NameKind.globalImplicit := by kernel_rfl
theorem g_law_first_len : (defScope s_law_first).names.lookup ("len" : Str) = some NameKind.globalImplicit := by kernel_rfl
theorem g_law_first_range : (defScope s_law_first).names.lookup ("range" : Str) = some NameKind.globalImplicit := by kernel_rfl
def t_law_first {cdv : Value} {A : Around} {outer : List Env} {s : Shared} {H : Hp} {E : XK} (B : Bl mg) (D_law_levels : Def P w K mg base 2 "_law_levels" ["row"] sp_law_levels) (D_law_ahead : Def P w K mg base 1 "_law_ahead" ["row"] sp_law_ahead) (hr : Room 2 (A.deeper (PyProof.Rows.envOfC "_law_first" (defScope s_law_first) s.heap.objs.size f cdv))) :
    { t : TS // QB (cxOf CX0 P w K mg base ["row", "many", "even", "behind_levels", "ahead", "last", "cut", "left", "place", "later", "there", "number"] "_law_first" (defScope s_law_first) f cdv A outer s H E).nox (defBody s_law_first) t } :=
  ⟨_, (qb_cons (qs_set (i := 3) sc_law_first.nd rfl l_law_first_behind_levels (.inl rfl) (qe_def D_law_levels hr (by decide) g_law_first__law_levels (qa_cons (qe_rev (K := K) rfl (qv 0 rfl v_law_first_row) (qo_some (qe_un unNeg qe_int))) qa_nil)))
    (qb_cons (qs_set (i := 4) sc_law_first.nd rfl l_law_first_ahead (.inl rfl) (qe_def D_law_ahead hr (by decide) g_law_first__law_ahead (qa_cons (qv 0 rfl v_law_first_row) qa_nil)))
    (qb_cons (qs_set (i := 5) sc_law_first.nd rfl l_law_first_last (.inl rfl) (qe_cB (kLen (K := K) rfl) g_law_first_len B.len boot_len' (qa_cons (qv 0 rfl v_law_first_row) qa_nil)))
    (qb_cons (qs_set (i := 6) sc_law_first.nd rfl l_law_first_cut (.inl rfl) (qe_lst qa_nil))
    (qb_mid (qs_for PassesOwn.never rfl (qi_r3 g_law_first_range B.range (qa_cons (qe_op opSub (qv 1 rfl v_law_first_many) qe_int) (qa_cons qe_int (qa_cons (qe_un unNeg qe_int) qa_nil)))) (qg_name (i := 7) sc_law_first.nd rfl l_law_first_left (.inl rfl)) (qb_cons (qs_set (i := 8) sc_law_first.nd rfl l_law_first_place (.inl rfl) (ke_ix (K := K) rfl (qe_op opAdd (qe_lst (qa_cons qe_int qa_nil)) (qv 6 rfl v_law_first_cut)) (qe_un unNeg qe_int) (fun _ _ => rfl)))
    (qb_cons (qs_set (i := 9) sc_law_first.nd rfl l_law_first_later (.inl rfl) (ke_ix (K := K) rfl (qv 3 rfl v_law_first_behind_levels) (qe_op opSub (qv 7 rfl v_law_first_left) qe_int) (fun _ _ => rfl)))
    (qb_cons (qs_set (i := 10) sc_law_first.nd rfl l_law_first_there (.inl rfl) (qe_op opAdd (qv 8 rfl v_law_first_place) qe_int))
    (qb_cons (qs_set (i := 11) sc_law_first.nd rfl l_law_first_number (.inl rfl) (qe_op opPow (qe_op opSub (ke_ix (K := K) rfl (qv 4 rfl v_law_first_ahead) (qv 10 rfl v_law_first_there) (fun _ _ => rfl)) (ke_ix (K := K) rfl (qv 4 rfl v_law_first_ahead) (qv 8 rfl v_law_first_place) (fun _ _ => rfl))) qe_int))
    (qb_mid (qs_while PassesOwn.never (qt_cmp (kNeG (K := K) rfl hr) (qv 2 rfl v_law_first_even) (qe_op opAdd (qv 11 rfl v_law_first_number) (ke_ix (K := K) rfl (qv 9 rfl v_law_first_later) (qe_op opSub (qv 5 rfl v_law_first_last) (qv 10 rfl v_law_first_there)) (fun _ _ => rfl)))) (qb_cons (qs_set (i := 10) sc_law_first.nd rfl l_law_first_there (.inl rfl) (qe_op opAdd (qv 10 rfl v_law_first_there) qe_int))
    (qb_one (qs_set (i := 11) sc_law_first.nd rfl l_law_first_number (.inl rfl) (qe_op opPow (qe_op opSub (ke_ix (K := K) rfl (qv 4 rfl v_law_first_ahead) (qv 10 rfl v_law_first_there) (fun _ _ => rfl)) (ke_ix (K := K) rfl (qv 4 rfl v_law_first_ahead) (qv 8 rfl v_law_first_place) (fun _ _ => rfl))) qe_int)))))
    (qb_cons (qs_set (i := 2) sc_law_first.nd rfl l_law_first_even (.inl rfl) (qe_op opSub (qv 2 rfl v_law_first_even) (qv 11 rfl v_law_first_number)))
    (qb_one (qs_ex (ke_m1 (K := K) rfl PySem.F.plainAttrs_list PySem.F.slot_list_append PySem.F.type_list_append mtApp (qv 6 rfl v_law_first_cut) (qv 10 rfl v_law_first_there)))))))))))
    (qb_one (qs_ret (qv 6 rfl v_law_first_cut))))))))⟩
open M25 in
def sp_law_first : Sp := fun vs H Q _ => ∃ (r : Addr) (ns : List Int) (m : Nat) (v : Int), vs = [.ref r, .int m, .int v] ∧ H r = some (.lst (ns.map V.int)) ∧ ns.length ≤ 900 ∧ (∀ n ∈ ns, 0 ≤ n ∧ n ≤ 1000000000000) ∧ 1 ≤ m ∧ m ≤ ns.length ∧ Least (sq ns) m 0 ns.length v ∧
  ∀ (p : Addr) (cs : List Nat) (b : Nat) (H' : Hp), H p = none → Same H H' → H' p = some (.lst ((zs cs).map V.int)) → Chain (sq ns) ns.length m (m - 1) cs b → Q (.ref p) H'
theorem zs_on (c : List Nat) (x : Nat) : (zs (c ++ [x])).map V.int = (zs c).map V.int ++ [V.int x] := by simp [zs]
open M25 in
theorem chain_last {w : Nat → Nat → Int} {n m : Nat} : ∀ {i b : Nat} {cs : List Nat}, Chain w n m i cs b → atI (([.int 0] : List V) ++ (zs cs).map V.int) (-1) = some (.int b)
  | 0, _, _, .nil => rfl
  | i + 1, _, _, .snoc h s => by rw [zs_on, ← List.append_assoc]; exact atI_last _ _
open M25 in
theorem ok_law_first (B : Bl mg) (D_law_levels : Def P w K mg base 2 "_law_levels" ["row"] sp_law_levels) (D_law_ahead : Def P w K mg base 1 "_law_ahead" ["row"] sp_law_ahead) (F : Fun K "_law_first" "_law_first" s_law_first f fd) : FnOk P w K mg base CX0 3 f fd ["row", "many", "even"] sp_law_first := by
  refine F.okq sc_law_first (fun vs H Q E h => ?_) (fun cdv A outer s H vs Q E hr h => ?_)
  · obtain ⟨r, ns, m, v, rfl, _⟩ := h; rfl
  obtain ⟨r, ns, m, v, rfl, hr0, hle, hz, m1, m2, hv0, q⟩ := h
  refine ⟨t_law_first B D_law_levels D_law_ahead hr, ?_⟩
  refine ⟨rfl, i_rev (SqL.of hr0) fun rv H1 hrv s1 e1 => ?_⟩
  rw [← List.map_reverse] at e1
  refine ⟨rv, ns.reverse, rfl, e1, by rw [List.length_reverse]; omega, by rw [List.length_reverse]; omega, fun n hn => hz n (List.mem_reverse.mp hn), fun bl bps bss H2 hbl s2 ebl hpr hbll hlev => ?_⟩
  rw [List.length_reverse] at hbll
  refine ⟨r, ns, rfl, s2 _ _ (s1 _ _ hr0), by omega, fun ah H3 hah s3 e3 => ?_⟩
  refine i_lenI (s3 _ _ (s2 _ _ (s1 _ _ hr0))) ?_
  refine i_newL (by show 0 ≤ sizeLine; decide) fun cu H4 hcu s4 e4 => ?_
  have s04 := s1.trans (s2.trans (s3.trans s4))
  have hcu0 : H cu = none := (s1.trans (s2.trans s3)).free hcu
  have hcu2 : H2 cu = none := s3.free hcu
  have nac : ah ≠ cu := ne_of_none e3 hcu
  have hpl := Paired.length hpr
  refine ⟨fun σ H' => ∃ cs b, Same H H' ∧ H' cu = some (.lst ((zs cs).map V.int)) ∧ Chain (sq ns) ns.length m (m - 1) cs b ∧ ∃ o2 o7 o8 o9 o10 o11, σ = [some (.ref r), some (.int m), o2, some (.ref bl), some (.ref ah), some (.int ns.length), some (.ref cu), o7, o8, o9, o10, o11], ?_, ?_⟩
  · refine ⟨rfl, ⟨by omega, by omega, by omega, by omega⟩, for_down (fun i σ H' => ∃ cs b u, Same H H' ∧ Same H2 H' ∧ H' ah = some (.lst ((pre ns (ns.length + 1)).map V.int)) ∧ H' cu = some (.lst ((zs cs).map V.int)) ∧ Chain (sq ns) ns.length m i cs b ∧ Least (sq ns) (m - i) b ns.length u ∧ ∃ o7 o8 o9 o10 o11, σ = [some (.ref r), some (.int m), some (.int u), some (.ref bl), some (.ref ah), some (.int ns.length), some (.ref cu), o7, o8, o9, o10, o11]) ?_ ?_ ?_⟩
    · exact ⟨[], 0, v, s04, s3.trans s4, s4 _ _ e3, e4, .nil, hv0, _, _, _, _, _, rfl⟩
    · rintro i σ H5 hi ⟨cs, b, u, s5, s25, eah, e5, ch, hu, o7, o8, o9, o10, o11, rfl⟩
      have hi' : i + 1 < m := by omega
      have hcl := ch.len
      have hb := path_le hu.1
      obtain ⟨e0, he0, hit⟩ := hit_ex (by omega) hu
      have hle0 := hit.le
      have el : ((m : Int) - 1 - (i : Int) - 1) = ((m - 2 - i : Nat) : Int) := by omega
      have hx : bps[m - 2 - i]? = some (bps[m - 2 - i]'(by omega)) := List.getElem?_eq_getElem (by omega)
      obtain ⟨lt, hlt, elt⟩ := pair_get hpr hx
      generalize bps[m - 2 - i]'(by omega) = la at hx elt
      have hlv := hlev _ _ hlt
      have hll := hlv.1
      rw [List.length_reverse] at hll
      have em : m - 2 - i + 1 = m - i - 1 := by omega
      rw [em] at hlv
      -- what a later end tells
      have at_ : ∀ t, t + (m - i - 1) ≤ ns.length → Least (sq ns) (m - i - 1) t ns.length (lt.getD (ns.length - t) 0) := fun t ht => by
        obtain ⟨c, pa⟩ := path_ex (w := sq ns.reverse) (k := m - i - 1) (b := 0) (e := ns.length - t) (by omega) (by omega)
        have h1 := (hlv.pos (getD_some (by omega)) pa).2
        have h2 := least_rev (by omega) h1
        have et : ns.length - (ns.length - t) = t := by omega
        rwa [et] at h2
      refine i_newL (by show 1 ≤ sizeLine; decide) fun pz G1 hpz sz1 ez1 => ?_
      refine i_cat ez1 (sz1 _ _ e5) (sz_of (by simp; omega)) fun py G2 hpy sz2 ez2 => ?_
      refine i_ix (.inl (SqL.of ez2)) (chain_last ch) ?_
      have sg : Same H5 G2 := sz1.trans sz2
      replace s5 := s5.trans sg
      replace s25 := s25.trans sg
      replace eah := sg _ _ eah
      replace e5 := sg _ _ e5
      refine i_ixN (m - 2 - i) (s25 _ _ ebl) el (map_ref_at hx) ?_
      refine i_ixN (b + 1) eah (by omega) (by rw [List.getElem?_map, pre_at (by omega)]; rfl) (i_ixN b eah rfl (by rw [List.getElem?_map, pre_at (by omega)]; rfl) ?_)
      refine ⟨⟨by decide, by decide, sq_small (by omega) hz (by omega) (by omega)⟩, ?_⟩
      have elt5 := s25 _ _ elt
      refine ⟨fun σ H' => H' = G2 ∧ ∃ t : Nat, Step (sq ns) ns.length (m - i) b t ∧ σ = [some (.ref r), some (.int m), some (.int u), some (.ref bl), some (.ref ah), some (.int ns.length), some (.ref cu), some (.int ((m : Int) - 1 - (i : Int))), some (.int b), some (.ref la), some (.int t), some (.int (sq ns b t))], ?_, ?_⟩
      · refine while_m (fun mm σ H' => H' = G2 ∧ ∃ t : Nat, mm = ns.length - t ∧ b < t ∧ (∀ e', b < e' → e' < t → ¬ Hit (sq ns) ns.length (m - i) b e') ∧ σ = [some (.ref r), some (.int m), some (.int u), some (.ref bl), some (.ref ah), some (.int ns.length), some (.ref cu), some (.int ((m : Int) - 1 - (i : Int))), some (.int b), some (.ref la), some (.int t), some (.int (sq ns b t))]) (ns.length - (b + 1)) ⟨rfl, b + 1, rfl, by omega, fun e' h1 h2 => by omega, rfl⟩ ?_
        rintro mm σ H' ⟨rfl, t, hmm, hbt, hno, rfl⟩
        have hte := hit_before hno hit he0
        have hv := at_ t (by omega)
        have hiff := hit_iff hv hu
        refine i_ixI elt5 (by omega) (by omega) ?_
        rw [show ((ns.length : Int) - (t : Int)).toNat = ns.length - t by omega]
        refine ndec2 (fun c => ?_) (fun c => ?_)
        · have c' : ¬ u = sq ns b t + lt.getD (ns.length - t) 0 := c
          have hnt : ¬ Hit (sq ns) ns.length (m - i) b t := fun z => c' (hiff.mp z).symm
          have htn : t < e0 := by
            rcases Nat.lt_or_ge t e0 with z | z
            · exact z
            · have : t = e0 := by omega
              exact absurd (this ▸ hit) hnt
          refine i_ixN (t + 1) eah (by omega) (by rw [List.getElem?_map, pre_at (by omega)]; rfl) (i_ixN b eah rfl (by rw [List.getElem?_map, pre_at (by omega)]; rfl) ?_)
          refine ⟨⟨by decide, by decide, sq_small (by omega) hz (by omega) (by omega)⟩, ?_⟩
          refine ⟨ns.length - (t + 1), by omega, rfl, t + 1, rfl, by omega, fun e' h1 h2 => ?_, rfl⟩
          by_cases z : e' = t
          · subst z; exact hnt
          · exact hno e' h1 (by omega)
        · have c' : u = sq ns b t + lt.getD (ns.length - t) 0 := c
          exact ⟨rfl, t, ⟨hbt, hiff.mpr c'.symm, hno⟩, rfl⟩
      · rintro σ H' ⟨rfl, t, st, rfl⟩
        have htl := st.2.1.le
        have hv := at_ t (by omega)
        have hsum := (hit_iff hv hu).mp st.2.1
        refine ⟨i_tyL e5, i_appI e5 (by rw [List.length_map]; omega) fun H6 k6 e6 => ?_⟩
        refine ⟨cs ++ [t], t, u - sq ns b t, s5.new k6 hcu0, s25.new k6 hcu2, k6.one nac eah, ?_, .snoc ch st, ?_, _, _, _, _, _, rfl⟩
        · rw [e6]; simp
        · have : u - sq ns b t = lt.getD (ns.length - t) 0 := by omega
          rw [this, show m - (i + 1) = m - i - 1 by omega]; exact hv
    · rintro σ H' ⟨cs, b, u, h1, _, _, h2, h3, _, o7, o8, o9, o10, o11, rfl⟩
      have : ((m : Int) - 1 - 0).toNat = m - 1 := by omega
      rw [this] at h3
      exact ⟨cs, b, h1, h2, h3, _, _, _, _, _, _, rfl⟩
  · rintro σ H' ⟨cs, b, h1, h2, h3, o2, o7, o8, o9, o10, o11, rfl⟩
    exact q cu cs b H' hcu0 h1 h2 h3

end
end K

set_option linter.all false
set_option Elab.async false
set_option maxRecDepth 100000
set_option maxHeartbeats 4000000
namespace K
open PySem L2
section
variable {C : Addr} {P : Program} {w : World} {K : PySem.W.Frag} {mg : Str → Option Value} {base : Heap} {f : Addr} {fd : FuncData}

abbrev s_law_prices : Stmt := top 20
theorem sc_law_prices : FnScope ["hand", "row", "evens", "at", "step", "ahead"] ["hand", "row"] (defScope s_law_prices) := ⟨rfl, rfl, rfl, by decide +kernel, rfl, by decide +kernel, by decide +kernel⟩
theorem l_law_prices_ahead : Loc (defScope s_law_prices) "ahead" := Or.inl (by kernel_rfl)
theorem l_law_prices_at : Loc (defScope s_law_prices) "at" := Or.inl (by kernel_rfl)
theorem l_law_prices_evens : Loc (defScope s_law_prices) "evens" := Or.inl (by kernel_rfl)
theorem l_law_prices_step : Loc (defScope s_law_prices) "step" := Or.inl (by kernel_rfl)
theorem v_law_prices_ahead : Vis (defScope s_law_prices) "ahead" := Or.inl (by kernel_rfl)
theorem v_law_prices_at : Vis (defScope s_law_prices) "at" := Or.inl (by kernel_rfl)
theorem v_law_prices_evens : Vis (defScope s_law_prices) "evens" := Or.inl (by kernel_rfl)
theorem v_law_prices_hand : Vis (defScope s_law_prices) "hand" := Or.inl (by kernel_rfl)
theorem v_law_prices_row : Vis (defScope s_law_prices) "row" := Or.inl (by kernel_rfl)
theorem v_law_prices_step : Vis (defScope s_law_prices) "step" := Or.inl (by kernel_rfl)
theorem g_law_prices__law_draw : (defScope s_law_prices).names.lookup ("_law_draw" : Str) = some NameKind.globalImplicit := by kernel_rfl
theorem g_law_prices__law_levels : (defScope s_law_prices).names.lookup ("_law_levels" : Str) = some NameKind.globalImplicit := by kernel_rfl
theorem g_law_prices_len : (defScope s_law_prices).names.lookup ("len" : Str) = some NameKind.globalImplicit := by kernel_rfl
theorem g_law_prices_max : (defScope s_law_prices).names.lookup ("max" : Str) = some NameKind.globalImplicit := by kernel_rfl
theorem g_law_prices_min : (defScope s_law_prices).names.lookup ("min" : Str) = some NameKind.globalImplicit := by kernel_rfl
def t_law_prices {cdv : Value} {A : Around} {outer : List Env} {s : Shared} {H : Hp} {E : XK} (B : Bl mg) (D_law_levels : Def P w K mg base 2 "_law_levels" ["row"] sp_law_levels) (D_law_draw : Def P w K mg base 1 "_law_draw" ["hand", "limit"] sp_law_draw) (hr : Room 2 (A.deeper (PyProof.Rows.envOfC "_law_prices" (defScope s_law_prices) s.heap.objs.size f cdv))) :
    { t : TS // QB (cxOf CX0 P w K mg base ["hand", "row", "evens", "at", "step", "ahead"] "_law_prices" (defScope s_law_prices) f cdv A outer s H E).nox (defBody s_law_prices) t } :=
  ⟨_, (qb_cons (qs_cp ["level"] [none] (i := 2) rfl sc_law_prices.nd rfl l_law_prices_evens (.inl rfl) (ki_list (K := K) rfl (qe_def D_law_levels hr (by decide) g_law_prices__law_levels (qa_cons (qv 1 rfl v_law_prices_row) qa_nil))) (fun _ _ _ _ _ _ => (qg_name (i := 0) (show (["level"] : List Str).Nodup by decide +kernel) rfl (by first | exact Or.inl rfl | exact Or.inr rfl) (by first | exact .inl rfl | exact .inr rfl))) (fun _ _ _ _ _ _ => qif_nil) (fun _ _ _ _ _ _ => (ke_ix (K := K) rfl (qv 0 rfl (by first | exact Or.inl rfl | exact Or.inr (Or.inl rfl) | exact Or.inr (Or.inr rfl))) (qe_un unNeg qe_int) (fun _ _ => rfl))))
    (qb_cons (qs_set (i := 3) sc_law_prices.nd rfl l_law_prices_at (.inl rfl) (qe_def D_law_draw hr (by decide) g_law_prices__law_draw (qa_cons (qv 0 rfl v_law_prices_hand) (qa_cons (qe_cB (kLen (K := K) rfl) g_law_prices_len B.len boot_len' (qa_cons (qv 1 rfl v_law_prices_row) qa_nil)) qa_nil))))
    (qb_cons (qs_set (i := 4) sc_law_prices.nd rfl l_law_prices_step (.inl rfl) (qe_op opSub (ke_ix (K := K) rfl (qv 2 rfl v_law_prices_evens) (qv 3 rfl v_law_prices_at) (fun _ _ => rfl)) (ke_ix (K := K) rfl (qv 2 rfl v_law_prices_evens) (qe_cB (kMin (K := K) rfl rfl) g_law_prices_min B.min boot_min' (qa_cons (qe_op opAdd (qv 3 rfl v_law_prices_at) qe_int) (qa_cons (qe_op opSub (qe_cB (kLen (K := K) rfl) g_law_prices_len B.len boot_len' (qa_cons (qv 1 rfl v_law_prices_row) qa_nil)) qe_int) qa_nil))) (fun _ _ => rfl))))
    (qb_cons (qs_set (i := 5) sc_law_prices.nd rfl l_law_prices_ahead (.inl rfl) (qe_op opSub (ke_ix (K := K) rfl (qv 2 rfl v_law_prices_evens) (qe_cB (kMax (K := K) rfl rfl) g_law_prices_max B.max boot_max' (qa_cons qe_int (qa_cons (qe_op opSub (qv 3 rfl v_law_prices_at) qe_int) qa_nil))) (fun _ _ => rfl)) (ke_ix (K := K) rfl (qv 2 rfl v_law_prices_evens) (qv 3 rfl v_law_prices_at) (fun _ _ => rfl))))
    (qb_one (qs_ret (qe_lst (qa_cons qe_int (qa_cons (qv 4 rfl v_law_prices_step) (qa_cons (qe_op opAdd (qv 4 rfl v_law_prices_step) qe_int) (qa_cons (qe_cB (kMax (K := K) rfl rfl) g_law_prices_max B.max boot_max' (qa_cons qe_int (qa_cons (qe_op opSub (qv 4 rfl v_law_prices_step) qe_int) qa_nil))) (qa_cons (qe_op opFdiv (qe_op opAdd (qv 4 rfl v_law_prices_step) (qv 5 rfl v_law_prices_ahead)) qe_int) (qa_cons (qe_def D_law_draw hr (by decide) g_law_prices__law_draw (qa_cons (qv 0 rfl v_law_prices_hand) (qa_cons (qe_op opPow qe_int qe_int) qa_nil))) (qa_cons (qe_op opPow qe_int qe_int) qa_nil))))))))))))))⟩
open M25 M31 in
def sp_law_prices : Sp := fun vs H Q _ => ∃ (h r : Addr) (ns : List Int), vs = [.ref h, .ref r] ∧ HandAt H h ∧ r ≠ h ∧ H r = some (.lst (ns.map V.int)) ∧ RowN ns ∧
  ∀ (p : Addr) (ps : List Int) (H' : Hp), ps.length = 7 → (∀ x ∈ ps, 0 ≤ x ∧ x ≤ 10000000000000000000000000000000) → HandAt H' h → Kp [h] H H' → p ≠ h → H' p = some (.lst (ps.map V.int)) → Q (.ref p) H'
open M25 M31 in
theorem ok_law_prices (B : Bl mg) (D_law_levels : Def P w K mg base 2 "_law_levels" ["row"] sp_law_levels) (D_law_draw : Def P w K mg base 1 "_law_draw" ["hand", "limit"] sp_law_draw) (F : Fun K "_law_prices" "_law_prices" s_law_prices f fd) : FnOk P w K mg base CX0 3 f fd ["hand", "row"] sp_law_prices := by
  refine F.okq sc_law_prices (fun vs H Q E h => ?_) (fun cdv A outer s H vs Q E hr h => ?_)
  · obtain ⟨h, r, ns, rfl, _⟩ := h; rfl
  obtain ⟨h, r, ns, rfl, hh, nrh, hr0, rn, q⟩ := h
  refine ⟨t_law_prices B D_law_levels D_law_draw hr, ?_⟩
  have hle := rn.le
  have hge := rn.ne
  have hz : ∀ n ∈ ns, 0 ≤ n ∧ n ≤ 1000000000000 := fun n hn => ⟨rn.nn n hn, rn.ub n hn⟩
  refine ⟨r, ns, rfl, hr0, hge, by omega, hz, fun lp lps lss H5 hlp s5 elp hpr hll hlev => ?_⟩
  refine ⟨⟨_, SqL.of elp⟩, comp_lst (lps.map V.ref) (fun i D σ H' ys => ∃ zs : List Int, ys = zs.map V.int ∧ zs.length = i ∧ (∀ j v, zs[j]? = some v → Least (sq ns) (j + 1) 0 ns.length v) ∧ Same H5 H' ∧ ∃ o, σ = [o]) ?_ ?_ ?_ ?_⟩
  · intro D H' hD s' e'
    exact ⟨[], rfl, rfl, by simp, s', _, rfl⟩
  · rintro i D σ H' ys hD ⟨_, _, _, _, s', _⟩
    exact SqL.of (s' _ _ elp)
  · rintro i x D σ H' ys hx hD ⟨zs, rfl, hzl, hzz, s', o, rfl⟩ eD
    obtain ⟨a, ha, rfl⟩ := ref_at hx
    have hi : i < lps.length := (List.getElem?_eq_some_iff.mp ha).1
    obtain ⟨l, hl, el⟩ := pair_get hpr ha
    have hi2 : i < lss.length := (List.getElem?_eq_some_iff.mp hl).1
    obtain ⟨ini, v, rfl, hv⟩ := (hlev i l hl).last (by omega) (by omega)
    have el' := s' _ _ el
    rw [List.map_append] at el'
    refine bT (i_ix (.inl (SqL.of el')) (atI_last _ _) ?_)
    refine ⟨eD, sz_lt (by rw [List.length_map]; omega), fun H6 k6 e6 => ⟨zs ++ [v], map_snoc zs _, by simp [hzl], fun j u hj => ?_, s'.new k6 hD, _, rfl⟩⟩
    by_cases hjz : j < zs.length
    · rw [List.getElem?_append_left hjz] at hj; exact hzz j u hj
    · rw [List.getElem?_append_right (by omega)] at hj
      have hj0 : j - zs.length = 0 := by
        by_cases h0 : j - zs.length = 0
        · exact h0
        · rw [List.getElem?_eq_none (by simp; omega)] at hj; cases hj
      rw [hj0] at hj
      simp only [List.getElem?_cons_zero, Option.some.injEq] at hj
      subst hj
      have ej : j = i := by omega
      subst ej; exact hv
  rintro du σ H6 ys hdu ⟨ev, rfl, hzl, hzz, s6, _⟩ e6
  have hpl := Paired.length hpr
  have hE : Evens ns ev := ⟨by rw [hzl, List.length_map]; omega, hzz⟩
  have hel := hE.1
  have er6 := s6 _ _ (s5 _ _ hr0)
  have hh6 := (hh.same s5).same s6
  have ndh : du ≠ h := (hh.same s5).ne hdu |>.symm
  refine i_lenI er6 ⟨h, ns.length, rfl, hh6, by omega, by omega, fun at_ H7 a0 a1 hh7 k7 => ?_⟩
  have er7 := k7.one nrh er6
  have e7 := k7.one ndh e6
  obtain ⟨ia, hia⟩ : ∃ ia : Nat, at_ = (ia : Int) := ⟨at_.toNat, by omega⟩
  subst hia
  refine i_ixI e7 (by omega) (by omega) (i_lenI er7 ?_)
  refine i_ixI e7 (by omega) (by omega) ?_
  refine i_ixI e7 (by omega) (by omega) (i_ixI e7 (by omega) (by omega) ?_)
  have hb : ∀ k, k < ns.length → 0 ≤ ev.getD k 0 ∧ ev.getD k 0 ≤ 14400000000000000000000000000 := fun k hk => ⟨ev_nn hE hk, ev_ub rn.nn rn.ub hle hE hk⟩
  have hdn : ∀ k j, k ≤ j → j < ns.length → ev.getD j 0 ≤ ev.getD k 0 := fun k j h1 h2 => by
    have := ev_last rn.nn hE (i := k) (j - k) (by omega)
    rwa [show k + (j - k) = j by omega] at this
  rw [show ((ia : Int)).toNat = ia by omega]
  obtain ⟨jb, hjb⟩ : ∃ jb, (min ((ia : Int) + 1) ((ns.length : Int) - 1)).toNat = jb := ⟨_, rfl⟩
  obtain ⟨jc, hjc⟩ : ∃ jc, (max (0 : Int) ((ia : Int) - 1)).toNat = jc := ⟨_, rfl⟩
  have b1 := hdn ia jb (by omega) (by omega)
  have b2 := hdn jc ia (by omega) (by omega)
  have b3 := hb ia (by omega)
  have b4 := hb jb (by omega)
  have b5 := hb jc (by omega)
  rw [hjb, hjc]
  refine ⟨⟨by decide, by decide⟩, ⟨by decide, by decide, by decide⟩, h, 1000000, rfl, hh7, by decide, by decide, fun x H8 x0 x1 hh8 k8 => ?_⟩
  refine ⟨⟨by decide, by decide, by decide⟩, i_newL (by show 7 ≤ sizeLine; decide) fun p9 H9 hp9 s9 e9 => ?_⟩
  refine q p9 [0, ev.getD ia 0 - ev.getD jb 0, ev.getD ia 0 - ev.getD jb 0 + 1, max 0 (ev.getD ia 0 - ev.getD jb 0 - 1), (ev.getD ia 0 - ev.getD jb 0 + (ev.getD jc 0 - ev.getD ia 0)) / 2, x, 1000000000000000000000000000000] H9 rfl (fun y hy => ?_) (hh8.same s9) (((((s5.trans s6).kp).trans k7).trans k8).same s9) (hh8.ne hp9).symm e9
  simp only [List.mem_cons, List.not_mem_nil, or_false] at hy
  generalize ev.getD ia 0 = A at *
  generalize ev.getD jb 0 = B at *
  generalize ev.getD jc 0 = C at *
  omega

end
end K

set_option linter.all false
set_option Elab.async false
set_option maxRecDepth 100000
set_option maxHeartbeats 4000000
namespace K
open PySem L2
section
variable {C : Addr} {P : Program} {w : World} {K : PySem.W.Frag} {mg : Str → Option Value} {base : Heap} {f : Addr} {fd : FuncData}

abbrev s_law_right : Stmt := top 19
theorem sc_law_right : FnScope ["row", "price", "held", "cost", "many", "due", "handed", "told"] ["row", "price", "held"] (defScope s_law_right) := ⟨rfl, rfl, rfl, by decide +kernel, rfl, by decide +kernel, by decide +kernel⟩
theorem l_law_right_cost : Loc (defScope s_law_right) "cost" := Or.inl (by kernel_rfl)
theorem l_law_right_due : Loc (defScope s_law_right) "due" := Or.inl (by kernel_rfl)
theorem l_law_right_handed : Loc (defScope s_law_right) "handed" := Or.inl (by kernel_rfl)
theorem l_law_right_many : Loc (defScope s_law_right) "many" := Or.inl (by kernel_rfl)
theorem l_law_right_told : Loc (defScope s_law_right) "told" := Or.inl (by kernel_rfl)
theorem v_law_right_cost : Vis (defScope s_law_right) "cost" := Or.inl (by kernel_rfl)
theorem v_law_right_due : Vis (defScope s_law_right) "due" := Or.inl (by kernel_rfl)
theorem v_law_right_handed : Vis (defScope s_law_right) "handed" := Or.inl (by kernel_rfl)
theorem v_law_right_held : Vis (defScope s_law_right) "held" := Or.inl (by kernel_rfl)
theorem v_law_right_many : Vis (defScope s_law_right) "many" := Or.inl (by kernel_rfl)
theorem v_law_right_price : Vis (defScope s_law_right) "price" := Or.inl (by kernel_rfl)
theorem v_law_right_row : Vis (defScope s_law_right) "row" := Or.inl (by kernel_rfl)
theorem v_law_right_told : Vis (defScope s_law_right) "told" := Or.inl (by kernel_rfl)
theorem g_law_right__law_due : (defScope s_law_right).names.lookup ("_law_due" : Str) = some NameKind.globalImplicit := by kernel_rfl
theorem g_law_right__law_first : (defScope s_law_right).names.lookup ("_law_first" : Str) = some NameKind.globalImplicit := by kernel_rfl
theorem g_law_right_at_price : (defScope s_law_right).names.lookup ("at_price" : Str) = some NameKind.globalImplicit := by kernel_rfl
theorem g_law_right_isinstance : (defScope s_law_right).names.lookup ("isinstance" : Str) = some NameKind.globalImplicit := by kernel_rfl
theorem g_law_right_list : (defScope s_law_right).names.lookup ("list" : Str) = some NameKind.globalImplicit := by kernel_rfl
theorem g_law_right_tuple : (defScope s_law_right).names.lookup ("tuple" : Str) = some NameKind.globalImplicit := by kernel_rfl
def t_law_right {cdv : Value} {A : Around} {outer : List Env} {s : Shared} {H : Hp} {E : XK} (B : Bl mg) (D_law_due : Def P w K mg base 2 "_law_due" ["row", "price"] sp_law_due) (D_law_first : Def P w K mg base 3 "_law_first" ["row", "many", "even"] sp_law_first) (D_at_price : Def P w K mg base 3 "at_price" ["row", "price"] sp_at_price) (hr : Room 3 (A.deeper (PyProof.Rows.envOfC "_law_right" (defScope s_law_right) s.heap.objs.size f cdv))) :
    { t : TS // QB (cxOf CX0 P w K mg base ["row", "price", "held", "cost", "many", "due", "handed", "told"] "_law_right" (defScope s_law_right) f cdv A outer s H E).nox (defBody s_law_right) t } :=
  ⟨_, (qb_cons (qs_asg (qe_def D_law_due hr (by decide) g_law_right__law_due (qa_cons (qv 0 rfl v_law_right_row) (qa_cons (qv 1 rfl v_law_right_price) qa_nil))) (kg_tup (K := K) rfl rfl (qgs_cons (qg_name (i := 3) sc_law_right.nd rfl l_law_right_cost (.inl rfl)) (qgs_cons (qg_name (i := 4) sc_law_right.nd rfl l_law_right_many (.inl rfl)) qgs_nil))))
    (qb_cons (qs_set (i := 5) sc_law_right.nd rfl l_law_right_due (.inl rfl) (qe_tup (qa_cons (qv 3 rfl v_law_right_cost) (qa_cons (qv 4 rfl v_law_right_many) (qa_cons (qe_def D_law_first hr (by decide) g_law_right__law_first (qa_cons (qv 0 rfl v_law_right_row) (qa_cons (qv 4 rfl v_law_right_many) (qa_cons (qe_op opSub (qv 3 rfl v_law_right_cost) (qe_op opMul (qv 1 rfl v_law_right_price) (qv 4 rfl v_law_right_many))) qa_nil)))) qa_nil)))))
    (qb_cons (qs_set (i := 6) sc_law_right.nd rfl l_law_right_handed (.inl rfl) (qe_cT (kList (K := K) rfl) g_law_right_list B.list boot_list (qa_cons (qv 0 rfl v_law_right_row) qa_nil)))
    (qb_cons (qs_set (i := 7) sc_law_right.nd rfl l_law_right_told (.inl rfl) (qe_def D_at_price hr (by decide) g_law_right_at_price (qa_cons (qv 6 rfl v_law_right_handed) (qa_cons (qv 1 rfl v_law_right_price) qa_nil))))
    (qb_cons (qs_if (QW.pt (qw_or (qt_not (kt_val (K := K) rfl (qe_cB (kIsi (K := K) rfl) g_law_right_isinstance B.isinstance boot_isinstance' (qa_cons (qv 7 rfl v_law_right_told) (qa_cons (qe_ty g_law_right_tuple B.tuple boot_tuple) qa_nil))))) (qw_or (qt_cmp (kNeG (K := K) rfl hr) (qv 7 rfl v_law_right_told) (qv 5 rfl v_law_right_due)) (qw_or (qt_not (kt_val (K := K) rfl (qe_cB (kIsi (K := K) rfl) g_law_right_isinstance B.isinstance boot_isinstance' (qa_cons (ke_ix (K := K) rfl (qv 7 rfl v_law_right_told) qe_int (fun _ _ => rfl)) (qa_cons (qe_ty g_law_right_list B.list boot_list) qa_nil))))) (qw_or1 (qt_cmp (kNeG (K := K) rfl hr) (qv 6 rfl v_law_right_handed) (qv 0 rfl v_law_right_row))))))) (qb_one (qs_ret qe_bl)) qb_nil)
    (qb_cons (qs_if (qt_cmp (kNeG (K := K) rfl hr) (qe_cp ["one"] [none] rfl (ki_list (K := K) rfl (qe_op opAdd (qe_lst (qa_cons (ke_ix (K := K) rfl (qv 7 rfl v_law_right_told) qe_int (fun _ _ => rfl)) (qa_cons (ke_ix (K := K) rfl (qv 7 rfl v_law_right_told) qe_int (fun _ _ => rfl)) qa_nil))) (ke_ix (K := K) rfl (qv 7 rfl v_law_right_told) qe_int (fun _ _ => rfl)))) (fun _ _ _ _ _ _ => (qg_name (i := 0) (show (["one"] : List Str).Nodup by decide +kernel) rfl (by first | exact Or.inl rfl | exact Or.inr rfl) (by first | exact .inl rfl | exact .inr rfl))) (fun _ _ _ _ _ _ => qif_one (QW.pt (qw_or (qt_not (kt_val (K := K) rfl (qe_cB (kIsi (K := K) rfl) rfl B.isinstance boot_isinstance' (qa_cons (qv 0 rfl (by first | exact Or.inl rfl | exact Or.inr (Or.inl rfl) | exact Or.inr (Or.inr rfl))) (qa_cons (qe_ty rfl B.int boot_int) qa_nil))))) (qw_or1 (kt_val (K := K) rfl (qe_cB (kIsi (K := K) rfl) rfl B.isinstance boot_isinstance' (qa_cons (qv 0 rfl (by first | exact Or.inl rfl | exact Or.inr (Or.inl rfl) | exact Or.inr (Or.inr rfl))) (qa_cons (qe_ty rfl B.bool boot_bool) qa_nil)))))))) (fun _ _ _ _ _ _ => (qv 0 rfl (by first | exact Or.inl rfl | exact Or.inr (Or.inl rfl) | exact Or.inr (Or.inr rfl))))) (qe_lst qa_nil)) (qb_one (qs_ret qe_bl)) qb_nil)
    (qb_cons (qs_ex (ke_m1 (K := K) rfl PySem.F.plainAttrs_list PySem.F.slot_list_append PySem.F.type_list_append mtApp (qv 2 rfl v_law_right_held) (qe_tup (qa_cons (qe_def D_at_price hr (by decide) g_law_right_at_price (qa_cons (qv 6 rfl v_law_right_handed) (qa_cons (qv 1 rfl v_law_right_price) qa_nil))) (qa_cons (qe_tup (qa_cons (qv 3 rfl v_law_right_cost) (qa_cons (qv 4 rfl v_law_right_many) (qa_cons (qe_cT (kList (K := K) rfl) g_law_right_list B.list boot_list (qa_cons (ke_ix (K := K) rfl (qv 5 rfl v_law_right_due) qe_int (fun _ _ => rfl)) qa_nil)) qa_nil)))) qa_nil)))))
    (qb_cons (qs_ex (ke_m1 (K := K) rfl PySem.F.plainAttrs_list PySem.F.slot_list_append PySem.F.type_list_append mtApp (ke_ix (K := K) rfl (qv 7 rfl v_law_right_told) qe_int (fun _ _ => rfl)) qe_int))
    (qb_cons (qs_ex (ke_m1 (K := K) rfl PySem.F.plainAttrs_list PySem.F.slot_list_append PySem.F.type_list_append mtApp (qv 6 rfl v_law_right_handed) qe_int))
    (qb_one (qs_ret (qe_cmp (kEqG (K := K) rfl hr) (qe_def D_at_price hr (by decide) g_law_right_at_price (qa_cons (qv 0 rfl v_law_right_row) (qa_cons (qv 1 rfl v_law_right_price) qa_nil))) (qv 5 rfl v_law_right_due)))))))))))))⟩
def tripD (c : Int) (m : Nat) (cs : List Int) : PyData := .tuple [.int c, .int m, intsD cs]
theorem rv_trip {H : Hp} {p pc : Addr} {c : Int} {m : Nat} {cs : List Int} (h1 : H p = some (.tup [.int c, .int m, .ref pc])) (h2 : H pc = some (.lst (cs.map V.int))) : RV 2 H (.ref p) (tripD c m cs) :=
  .inr ⟨_, _, .inl h1, rfl, .cons rfl (.cons rfl (.cons (rv_ints h2) .nil))⟩
/-- a pair of two tellings that are the same, none of it at the places S -/
def Held3 (S : List Addr) (H : Hp) (t : Addr) : Prop := ∃ p q pc qc v k cs, t ∉ S ∧ p ∉ S ∧ q ∉ S ∧ pc ∉ S ∧ qc ∉ S ∧ H t = some (.tup [.ref p, .ref q]) ∧ H p = some (.tup [.int v, .int ((k : Nat) : Int), .ref pc]) ∧ H q = some (.tup [.int v, .int ((k : Nat) : Int), .ref qc]) ∧ H pc = some (.lst (List.map V.int cs)) ∧ H qc = some (.lst (List.map V.int cs))
theorem Held3.kp {S T : List Addr} {H H' : Hp} {t : Addr} (h : Held3 S H t) (s : Kp T H H') (hs : ∀ a ∈ T, a ∈ S) : Held3 S H' t :=
  let ⟨p, q, pc, qc, v, k, cs, a, b, c, d, e, f1, f2, f3, f4, f5⟩ := h
  ⟨p, q, pc, qc, v, k, cs, a, b, c, d, e, s _ _ (fun z => a (hs _ z)) f1, s _ _ (fun z => b (hs _ z)) f2, s _ _ (fun z => c (hs _ z)) f3, s _ _ (fun z => d (hs _ z)) f4, s _ _ (fun z => e (hs _ z)) f5⟩
theorem Held3.same {S : List Addr} {H H' : Hp} {t : Addr} (h : Held3 S H t) (s : Same H H') : Held3 S H' t := h.kp (T := []) s.kp (by simp)
theorem Held3.more {S : List Addr} {H : Hp} {t x : Addr} (h : Held3 S H t) (hx : H x = none) : Held3 (x :: S) H t :=
  let ⟨p, q, pc, qc, v, k, cs, a, b, c, d, e, f1, f2, f3, f4, f5⟩ := h
  ⟨p, q, pc, qc, v, k, cs, by simp [a, ne_of_none f1 hx], by simp [b, ne_of_none f2 hx], by simp [c, ne_of_none f3 hx], by simp [d, ne_of_none f4 hx], by simp [e, ne_of_none f5 hx], f1, f2, f3, f4, f5⟩
theorem Held3.less {S T : List Addr} {H : Hp} {t : Addr} (h : Held3 S H t) (hs : ∀ a ∈ T, a ∈ S) : Held3 T H t :=
  let ⟨p, q, pc, qc, v, k, cs, a, b, c, d, e, f⟩ := h
  ⟨p, q, pc, qc, v, k, cs, fun z => a (hs _ z), fun z => b (hs _ z), fun z => c (hs _ z), fun z => d (hs _ z), fun z => e (hs _ z), f⟩
open M25 M31 M28 in
def sp_law_right : Sp := fun vs H Q _ => ∃ (r hl : Addr) (S : List Addr) (price : Int) (ns : List Int) (ts : List Addr), vs = [.ref r, .int price, .ref hl] ∧ (∀ x ∈ S, ∃ o, H x = some o) ∧ H r = some (.lst (ns.map V.int)) ∧ r ≠ hl ∧ H hl = some (.lst (ts.map V.ref)) ∧ ts.length ≤ 1000 ∧ (∀ t ∈ ts, Held3 (hl :: S) H t) ∧ RowN ns ∧ 0 ≤ price ∧ price ≤ 10000000000000000000000000000000 ∧
  ∀ (H' : Hp) (tu : Addr), Kp [hl] H H' → H' hl = some (.lst ((ts ++ [tu]).map V.ref)) → (∀ t ∈ ts ++ [tu], Held3 (hl :: S) H' t) → Q (.bl true) H'
open M25 M31 M28 in
theorem ok_law_right (B : Bl mg) (D_law_due : Def P w K mg base 2 "_law_due" ["row", "price"] sp_law_due) (D_law_first : Def P w K mg base 3 "_law_first" ["row", "many", "even"] sp_law_first) (D_at_price : Def P w K mg base 3 "at_price" ["row", "price"] sp_at_price) (F : Fun K "_law_right" "_law_right" s_law_right f fd) : FnOk P w K mg base CX0 4 f fd ["row", "price", "held"] sp_law_right := by
  refine F.okq sc_law_right (fun vs H Q E h => ?_) (fun cdv A outer s H vs Q E hr h => ?_)
  · obtain ⟨r, hl, S, price, ns, ts, rfl, _⟩ := h; rfl
  obtain ⟨r, hl, S, price, ns, ts, rfl, hSx, hr0, nrl, hh0, htl, hts, rn, p0, p1, q⟩ := h
  refine ⟨t_law_right B D_law_due D_law_first D_at_price hr, ?_⟩
  have hle := rn.le
  have hge := rn.ne
  have hz : ∀ n ∈ ns, 0 ≤ n ∧ n ≤ 1000000000000 := fun n hn => ⟨rn.nn n hn, rn.ub n hn⟩
  refine ⟨r, ns, price, rfl, hr0, hge, hle, hz, p0, fun t1 C m H1 hdl ht1 s1 e1 => ?_⟩
  obtain ⟨hv, hm1, hmn⟩ := dl_least hge hdl
  refine i_unp e1 rfl ?_
  have er1 := s1 _ _ hr0
  refine ⟨.inr ⟨by omega, by omega⟩, r, ns, m, C - price * (m : Int), rfl, er1, by omega, hz, hm1, hmn, hv, fun fc cs b H2 hfc s2 e2 ch => ?_⟩
  have hcl := ch.len
  refine i_newT (by show 3 ≤ sizeLine; decide) fun du H3 hdu s3 e3 => ?_
  have er3 := s3 _ _ (s2 _ _ er1)
  have efc3 := s3 _ _ e2
  refine i_copy er3 fun hd H4 hhd s4 e4 => ?_
  refine ⟨hd, ns, price, rfl, e4, hge, by omega, hz, p0, p1, fun td tc C5 m5 cs5 b5 ev H5 hE hc5 ch5 htd htc ntt s5 e5 ec5 => ?_⟩
  have hcost := dl_cost hge hE hdl
  obtain ⟨rfl, rfl⟩ := cost_uniq hc5 hcost
  cases (ch5.uniq ch).1
  have du5 := s5 _ _ (s4 _ _ e3)
  have fc5 := s5 _ _ (s4 _ _ efc3)
  refine i_isi (.tup e5) (by simp) (by simp) (bNo (by decide +kernel) ?_)
  refine i_eqD (d := tripD C5 m5 (zs cs)) 1 (by decide) (rv_trip e5 ec5) (rv_trip du5 fc5) (bNo rfl ?_)
  refine i_ixT 2 e5 rfl rfl (i_isi (.lst ec5) (by simp) (by simp) (bNo (by decide +kernel) ?_))
  refine i_eqI (ns := ns) (ms := ns) (SqL.of (s5 _ _ e4)) (SqL.of (s5 _ _ (s4 _ _ er3))) (bNo (by simp) ?_)
  refine i_ixT 0 e5 rfl rfl (i_ixT 1 e5 rfl rfl (i_newL (by show 2 ≤ sizeLine; decide) fun l1 J1 hl1 t1' f1 => i_ixT 2 (t1' _ _ e5) rfl rfl ?_))
  refine i_cat f1 (t1' _ _ ec5) (sz_of (by simp; omega)) fun l2 J2 hl2 t2' f2 => ?_
  have f2' : J2 l2 = some (.lst ((C5 :: (m5 : Int) :: zs cs).map V.int)) := f2
  refine ⟨⟨_, SqL.of f2'⟩, comp_lst ((C5 :: (m5 : Int) :: zs cs).map V.int) (fun k D σ H' ys => ys = [] ∧ Same J2 H' ∧ ∃ o, σ = [o]) ?_ ?_ ?_ ?_⟩
  · intro D H' hD s' e'
    exact ⟨rfl, s', _, rfl⟩
  · rintro k D σ H' ys hD ⟨_, s', _⟩
    exact SqL.of (s' _ _ f2')
  · rintro k x D σ H' ys hx hD ⟨rfl, s', o, rfl⟩ eD
    obtain ⟨z, rfl, _, _⟩ := vints_at hx
    refine i_isi (.int z) (by simp) (by simp) (bNo (by decide +kernel) ?_)
    refine i_isi (.int z) (by simp) (by simp) (bNo (by decide +kernel) ?_)
    exact ⟨eD, rfl, s', _, rfl⟩
  rintro D3 σ J3 ys hD3 ⟨rfl, t3', _⟩ f3
  refine i_newL (by show 0 ≤ sizeLine; decide) fun l4 H6 hl4 t4' f4 => ?_
  refine i_eqI (ns := []) (ms := []) (SqL.of (t4' _ _ f3)) (SqL.of f4) (bNo (by simp) ?_)
  have s6 : Same H5 H6 := t1'.trans (t2'.trans (t3'.trans t4'))
  have s46 := s5.trans s6
  have s03 := s1.trans (s2.trans s3)
  have s06 := s03.trans (s4.trans s46)
  refine ⟨i_tyL (s06 _ _ hh0), ?_⟩
  refine ⟨hd, ns, price, rfl, s46 _ _ e4, hge, by omega, hz, p0, p1, fun p7 pc7 C7 m7 cs7 b7 ev7 H7 hE7 hc7 ch7 hp7 hpc7 n7 s7 e7 ec7 => ?_⟩
  cases hE7.uniq hE
  obtain ⟨rfl, rfl⟩ := cost_uniq hc7 hcost
  cases (ch7.uniq ch).1
  refine i_ixT 2 (s7 _ _ (s6 _ _ du5)) rfl rfl (i_copy (s7 _ _ (s6 _ _ fc5)) fun c8 H8 hc8 s8 e8 => ?_)
  refine i_newT (by show 3 ≤ sizeLine; decide) fun t9 H9 ht9 s9 e9 => ?_
  refine i_newT (by show 2 ≤ sizeLine; decide) fun tu H10 htu s10 e10 => ?_
  have s610 := s7.trans (s8.trans (s9.trans s10))
  have s010 := s06.trans s610
  refine i_app (s010 _ _ hh0) (sz_lt (by rw [List.length_map]; omega)) fun H11 k11 e11 => ?_
  -- what is changed later: tc, hd
  have htc0 : H tc = none := (s03.trans s4).free htc
  have hhd0 : H hd = none := s03.free hhd
  have ehl : ∀ p, H p = none → p ≠ hl := fun p hp => (ne_of_none hh0 hp).symm
  have old : ∀ t ∈ ts, Held3 (hd :: tc :: hl :: S) H11 t := fun t ht => ((((hts t ht).more htc0).more hhd0).same s010).kp k11 (by simp)
  have etc6 := s6 _ _ ec5
  have ehd6 := s46 _ _ e4
  have new_ : Held3 (hd :: tc :: hl :: S) H11 tu := by
    have f : ∀ p {HH : Hp}, HH p = none → Same H HH → (∃ o, HH hd = some o) → (∃ o, HH tc = some o) → p ≠ hl ∧ p ∉ hd :: tc :: hl :: S := fun p {HH} hp sp ⟨_, o1⟩ ⟨_, o2⟩ => ⟨ehl p (sp.free hp), fun z => by
      rcases List.mem_cons.mp z with z | z
      · exact ne_of_none o1 hp z.symm
      rcases List.mem_cons.mp z with z | z
      · exact ne_of_none o2 hp z.symm
      rcases List.mem_cons.mp z with z | z
      · exact ehl p (sp.free hp) z
      obtain ⟨_, o3⟩ := hSx p z
      rw [sp.free hp] at o3; cases o3⟩
    obtain ⟨a3, a1⟩ := f tu htu (s06.trans (s7.trans (s8.trans s9))) ⟨_, s9 _ _ (s8 _ _ (s7 _ _ ehd6))⟩ ⟨_, s9 _ _ (s8 _ _ (s7 _ _ etc6))⟩
    obtain ⟨b3, b1⟩ := f p7 hp7 s06 ⟨_, ehd6⟩ ⟨_, etc6⟩
    obtain ⟨c3, c1⟩ := f t9 ht9 (s06.trans (s7.trans s8)) ⟨_, s8 _ _ (s7 _ _ ehd6)⟩ ⟨_, s8 _ _ (s7 _ _ etc6)⟩
    obtain ⟨d3, d1⟩ := f pc7 hpc7 s06 ⟨_, ehd6⟩ ⟨_, etc6⟩
    obtain ⟨g3, g1⟩ := f c8 hc8 (s06.trans s7) ⟨_, s7 _ _ ehd6⟩ ⟨_, s7 _ _ etc6⟩
    refine ⟨p7, t9, pc7, c8, C7, m7, zs cs, a1, b1, c1, d1, g1, k11.one a3 e10, k11.one b3 (s10 _ _ (s9 _ _ (s8 _ _ e7))), k11.one c3 (s10 _ _ e9), k11.one d3 (s10 _ _ (s9 _ _ (s8 _ _ ec7))), k11.one g3 (s10 _ _ (s9 _ _ e8))⟩
  have ntl := ehl td ((s03.trans s4).free htd)
  have ncl := ehl tc htc0
  have nhl := ehl hd hhd0
  have etd11 := k11.one ntl (s610 _ _ (s6 _ _ e5))
  have etc11 := k11.one ncl (s610 _ _ etc6)
  refine i_ixT 2 etd11 rfl rfl ⟨i_tyL etc11, i_appI etc11 (by simp; omega) fun H12 k12 e12 => ?_⟩
  have nhc : hd ≠ tc := ne_of_none e4 htc
  have ehd12 := k12.one nhc (k11.one nhl (s610 _ _ ehd6))
  refine ⟨i_tyL ehd12, i_appI ehd12 (by omega) fun H13 k13 e13 => ?_⟩
  have nrc : r ≠ tc := ne_of_none hr0 htc0
  have nrh : r ≠ hd := ne_of_none hr0 hhd0
  have er13 := k13.one nrh (k12.one nrc (k11.one nrl (s010 _ _ hr0)))
  refine ⟨r, ns, price, rfl, er13, hge, by omega, hz, p0, p1, fun p14 pc14 C14 m14 cs14 b14 ev14 H14 hE14 hc14 ch14 hp14 hpc14 n14 s14 e14 ec14 => ?_⟩
  cases hE14.uniq hE
  obtain ⟨rfl, rfl⟩ := cost_uniq hc14 hcost
  cases (ch14.uniq ch).1
  have ndl := ehl du ((s1.trans s2).free hdu)
  have nfl := ehl fc (s1.free hfc)
  have ndc : du ≠ tc := ne_of_none (s4 _ _ e3) htc
  have ndh : du ≠ hd := ne_of_none e3 hhd
  have nfc : fc ≠ tc := ne_of_none (s4 _ _ efc3) htc
  have nfh : fc ≠ hd := ne_of_none efc3 hhd
  have du14 := s14 _ _ (k13.one ndh (k12.one ndc (k11.one ndl (s610 _ _ (s6 _ _ du5)))))
  have fc14 := s14 _ _ (k13.one nfh (k12.one nfc (k11.one nfl (s610 _ _ (s6 _ _ fc5)))))
  refine i_eqD (d := tripD C14 m14 (zs cs)) 1 (by decide) (rv_trip e14 ec14) (rv_trip du14 fc14) ?_
  have k1114 : Kp [hd, tc, hl] H11 H14 := ((k12.mono (by simp)).trans (k13.mono (by simp))).trans s14.kp
  have kA : Kp [hl] H H11 := s010.kp.trans k11
  refine q H14 tu (((kA.new k12 htc0).new k13 hhd0).trans s14.kp) ?_ fun t ht => ?_
  · rw [List.map_append]
    exact s14 _ _ (k13.one (Ne.symm nhl) (k12.one (Ne.symm ncl) e11))
  · rcases List.mem_append.mp ht with ht | ht
    · exact ((old t ht).kp k1114 (by simp)).less (fun _ z => by simp at z ⊢; rcases z with z | z <;> simp [z])
    · have : t = tu := by simpa using ht
      subst this
      exact (new_.kp k1114 (by simp)).less (fun _ z => by simp at z ⊢; rcases z with z | z <;> simp [z])

end
end K

set_option linter.all false
set_option Elab.async false
set_option maxRecDepth 100000
set_option maxHeartbeats 4000000
namespace K
open PySem L2
section
variable {C : Addr} {P : Program} {w : World} {K : PySem.W.Frag} {mg : Str → Option Value} {base : Heap} {f : Addr} {fd : FuncData}

abbrev s_law : Stmt := top 21
theorem sc_law : FnScope ["script", "held", "k", "cell", "hand", "row", "some"] ["script"] (defScope s_law) := ⟨rfl, rfl, rfl, by decide +kernel, rfl, by decide +kernel, by decide +kernel⟩
theorem l_law_cell : Loc (defScope s_law) "cell" := Or.inl (by kernel_rfl)
theorem l_law_hand : Loc (defScope s_law) "hand" := Or.inl (by kernel_rfl)
theorem l_law_held : Loc (defScope s_law) "held" := Or.inr (by kernel_rfl)
theorem l_law_k : Loc (defScope s_law) "k" := Or.inl (by kernel_rfl)
theorem l_law_row : Loc (defScope s_law) "row" := Or.inr (by kernel_rfl)
theorem l_law_some : Loc (defScope s_law) "some" := Or.inl (by kernel_rfl)
theorem v_law_cell : Vis (defScope s_law) "cell" := Or.inl (by kernel_rfl)
theorem v_law_hand : Vis (defScope s_law) "hand" := Or.inl (by kernel_rfl)
theorem v_law_held : Vis (defScope s_law) "held" := Or.inr (Or.inl (by kernel_rfl))
theorem v_law_k : Vis (defScope s_law) "k" := Or.inl (by kernel_rfl)
theorem v_law_row : Vis (defScope s_law) "row" := Or.inr (Or.inl (by kernel_rfl))
theorem v_law_script : Vis (defScope s_law) "script" := Or.inl (by kernel_rfl)
theorem v_law_some : Vis (defScope s_law) "some" := Or.inl (by kernel_rfl)
theorem g_law__law_cells : (defScope s_law).names.lookup ("_law_cells" : Str) = some NameKind.globalImplicit := by kernel_rfl
theorem g_law__law_draw : (defScope s_law).names.lookup ("_law_draw" : Str) = some NameKind.globalImplicit := by kernel_rfl
theorem g_law__law_hand : (defScope s_law).names.lookup ("_law_hand" : Str) = some NameKind.globalImplicit := by kernel_rfl
theorem g_law__law_prices : (defScope s_law).names.lookup ("_law_prices" : Str) = some NameKind.globalImplicit := by kernel_rfl
theorem g_law__law_row : (defScope s_law).names.lookup ("_law_row" : Str) = some NameKind.globalImplicit := by kernel_rfl
theorem g_law__law_size : (defScope s_law).names.lookup ("_law_size" : Str) = some NameKind.globalImplicit := by kernel_rfl
theorem g_law_len : (defScope s_law).names.lookup ("len" : Str) = some NameKind.globalImplicit := by kernel_rfl
def t_law {cdv : Value} {A : Around} {outer : List Env} {s : Shared} {H : Hp} {E : XK} (B : Bl mg) (D_law_cells : Def P w K mg base 1 "_law_cells" ["script", "many"] (sp_law_cells K)) (D_law_hand : Def P w K mg base 1 "_law_hand" ["cell", "k"] sp_law_hand) (D_law_row : Def P w K mg base 2 "_law_row" ["hand", "many"] sp_law_row) (D_law_size : Def P w K mg base 2 "_law_size" ["hand", "k", "most", "far"] sp_law_size) (D_law_prices : Def P w K mg base 3 "_law_prices" ["hand", "row"] sp_law_prices) (D_law_draw : Def P w K mg base 1 "_law_draw" ["hand", "limit"] sp_law_draw) (D_law_right : Def P w K mg base 4 "_law_right" ["row", "price", "held"] sp_law_right) (hr : Room 4 (A.deeper (PyProof.Rows.envOfC "law" (defScope s_law) s.heap.objs.size f cdv))) :
    { t : TS // QB (cxOf CX0 P w K mg base ["script", "held", "k", "cell", "hand", "row", "some"] "law" (defScope s_law) f cdv A outer s H E).nox (defBody s_law) t } :=
  ⟨_, (qb_cons (qs_set (i := 1) sc_law.nd rfl l_law_held (.inl rfl) (qe_lst qa_nil))
    (qb_mid (qs_for PassesOwn.never rfl (ki_list (K := K) rfl (qe_def D_law_cells hr (by decide) g_law__law_cells (qa_cons (qv 0 rfl v_law_script) (qa_cons qe_int qa_nil)))) (kg_tup (K := K) rfl rfl (qgs_cons (qg_name (i := 2) sc_law.nd rfl l_law_k (.inl rfl)) (qgs_cons (qg_name (i := 3) sc_law.nd rfl l_law_cell (.inl rfl)) qgs_nil))) (qb_cons (qs_set (i := 4) sc_law.nd rfl l_law_hand (.inl rfl) (qe_def D_law_hand hr (by decide) g_law__law_hand (qa_cons (qv 3 rfl v_law_cell) (qa_cons (qv 2 rfl v_law_k) qa_nil))))
    (qb_cons (qs_set (i := 5) sc_law.nd rfl l_law_row (.inl rfl) (qe_def D_law_row hr (by decide) g_law__law_row (qa_cons (qv 4 rfl v_law_hand) (qa_cons (qe_def D_law_size hr (by decide) g_law__law_size (qa_cons (qv 4 rfl v_law_hand) (qa_cons (qv 2 rfl v_law_k) (qa_cons qe_int (qa_cons qe_int qa_nil))))) qa_nil))))
    (qb_cons (qs_set (i := 6) sc_law.nd rfl l_law_some (.inl rfl) (qe_def D_law_prices hr (by decide) g_law__law_prices (qa_cons (qv 4 rfl v_law_hand) (qa_cons (qv 5 rfl v_law_row) qa_nil))))
    (qb_mid (qs_if (qt_cmp opGt (qe_cB (kLen (K := K) rfl) g_law_len B.len boot_len' (qa_cons (qv 5 rfl v_law_row) qa_nil)) qe_int) (qb_one (qs_set (i := 6) sc_law.nd rfl l_law_some (.inl rfl) (qe_lst (qa_cons (ke_ix (K := K) rfl (qv 6 rfl v_law_some) (qe_def D_law_draw hr (by decide) g_law__law_draw (qa_cons (qv 4 rfl v_law_hand) (qa_cons qe_int qa_nil))) (fun _ _ => rfl)) qa_nil)))) qb_nil)
    (qb_one (qs_if (qt_cmp (kNeG (K := K) rfl hr) (qe_cp ["price", "row", "held"] [none, some 5, some 1] rfl (ki_list (K := K) rfl (qv 6 rfl v_law_some)) (fun _ _ _ _ _ _ => (qg_name (i := 0) (show (["price", "row", "held"] : List Str).Nodup by decide +kernel) rfl (by first | exact Or.inl rfl | exact Or.inr rfl) (by first | exact .inl rfl | exact .inr rfl))) (fun _ _ _ _ _ _ => qif_one (qt_not (kt_val (K := K) rfl (qe_def D_law_right hr (by decide) rfl (qa_cons (qv 1 rfl (by first | exact Or.inl rfl | exact Or.inr (Or.inl rfl) | exact Or.inr (Or.inr rfl))) (qa_cons (qv 0 rfl (by first | exact Or.inl rfl | exact Or.inr (Or.inl rfl) | exact Or.inr (Or.inr rfl))) (qa_cons (qv 2 rfl (by first | exact Or.inl rfl | exact Or.inr (Or.inl rfl) | exact Or.inr (Or.inr rfl))) qa_nil))))))) (fun _ _ _ _ _ _ => (qv 0 rfl (by first | exact Or.inl rfl | exact Or.inr (Or.inl rfl) | exact Or.inr (Or.inr rfl))))) (qe_lst qa_nil)) (qb_one (qs_ret qe_bl)) qb_nil)))))))
    (qb_one (qs_ret (qe_cmp (kEqG (K := K) rfl hr) (qe_cp ["one"] [none] rfl (ki_list (K := K) rfl (qv 1 rfl v_law_held)) (fun _ _ _ _ _ _ => (qg_name (i := 0) (show (["one"] : List Str).Nodup by decide +kernel) rfl (by first | exact Or.inl rfl | exact Or.inr rfl) (by first | exact .inl rfl | exact .inr rfl))) (fun _ _ _ _ _ _ => qif_one (qt_cmp (kNeG (K := K) rfl hr) (ke_ix (K := K) rfl (qv 0 rfl (by first | exact Or.inl rfl | exact Or.inr (Or.inl rfl) | exact Or.inr (Or.inr rfl))) qe_int (fun _ _ => rfl)) (ke_ix (K := K) rfl (qv 0 rfl (by first | exact Or.inl rfl | exact Or.inr (Or.inl rfl) | exact Or.inr (Or.inr rfl))) qe_int (fun _ _ => rfl)))) (fun _ _ _ _ _ _ => (qv 0 rfl (by first | exact Or.inl rfl | exact Or.inr (Or.inl rfl) | exact Or.inr (Or.inr rfl))))) (qe_lst qa_nil))))))⟩
def sp_law (K : PySem.W.Frag) : Sp := fun vs H Q _ => ∃ (a : Addr) (ns : List Int), vs = [.ref a] ∧ SqL K H a (ns.map V.int) ∧ ns.length ≤ 63 ∧ ∀ H', Q (.bl true) H'
open M25 M31 M28 in
theorem ok_law (B : Bl mg) (D_law_cells : Def P w K mg base 1 "_law_cells" ["script", "many"] (sp_law_cells K)) (D_law_hand : Def P w K mg base 1 "_law_hand" ["cell", "k"] sp_law_hand) (D_law_row : Def P w K mg base 2 "_law_row" ["hand", "many"] sp_law_row) (D_law_size : Def P w K mg base 2 "_law_size" ["hand", "k", "most", "far"] sp_law_size) (D_law_prices : Def P w K mg base 3 "_law_prices" ["hand", "row"] sp_law_prices) (D_law_draw : Def P w K mg base 1 "_law_draw" ["hand", "limit"] sp_law_draw) (D_law_right : Def P w K mg base 4 "_law_right" ["row", "price", "held"] sp_law_right) (F : Fun K "law" "law" s_law f fd) : FnOk P w K mg base CX0 5 f fd ["script"] (sp_law K) := by
  refine F.okq sc_law (fun vs H Q E h => ?_) (fun cdv A outer s H vs Q E hr h => ?_)
  · obtain ⟨a, ns, rfl, _⟩ := h; rfl
  obtain ⟨a, sc, rfl, hS, h63, q⟩ := h
  refine ⟨t_law B D_law_cells D_law_hand D_law_row D_law_size D_law_prices D_law_draw D_law_right hr, ?_⟩
  refine i_newL (by show 0 ≤ sizeLine; decide) fun hl Hh hhl sh eh => ?_
  refine ⟨fun σ H' => (∃ ts : List Addr, H' hl = some (.lst (ts.map V.ref)) ∧ ∀ t ∈ ts, Held3 [hl] H' t) ∧ ∃ o2 o3 o4 o5 o6, σ = [some (.ref a), some (.ref hl), o2, o3, o4, o5, o6], ?_, ?_⟩
  · refine ⟨a, sc, 6, rfl, sh.seq hS, h63, fun D as H0 s0 hDn hD hlen hpair => ?_⟩
    have nDl : D ≠ hl := (ne_of_none eh hDn).symm
    have nbl : ∀ (j : Nat) (b : Addr), as[j]? = some b → b ≠ hl := fun j b hb z => by
      obtain ⟨c, hc⟩ := hpair j b hb
      rw [z, s0 _ _ eh] at hc; cases hc
    refine ⟨⟨_, SqL.of hD⟩, for_list (xs := as.map V.ref) (fun i σ H' => (∃ ts : List Addr, H' hl = some (.lst (ts.map V.ref)) ∧ ts.length ≤ 7 * i ∧ ∀ t ∈ ts, Held3 [hl] H' t) ∧ (∃ o2 o3 o4 o5 o6, σ = [some (.ref a), some (.ref hl), o2, o3, o4, o5, o6]) ∧ Kp [hl] H0 H') ?_ ?_ ?_ ?_⟩
    · exact ⟨⟨[], s0 _ _ eh, by simp, by simp⟩, ⟨_, _, _, _, _, rfl⟩, Kp.refl _ _⟩
    · rintro i σ H' _ ⟨_, _, s'⟩
      exact SqL.of (s'.one nDl hD)
    · rintro i x σ H1 hx ⟨⟨ts, ets, htl, hts⟩, ⟨o2, o3, o4, o5, o6, rfl⟩, s1⟩
      obtain ⟨b, hb, rfl⟩ := ref_at hx
      obtain ⟨c, hc⟩ := hpair i b hb
      have hi : i < as.length := (List.getElem?_eq_some_iff.mp hb).1
      refine i_unp (s1.one (nbl i b hb) hc) rfl ?_
      refine ⟨c, i, rfl, by omega, by omega, fun h H2 hh0 s2 hh2 => ?_⟩
      refine ⟨h, i, 30, 120, rfl, hh2, by decide, by decide, by decide, by decide, fun n H3 n1 n2 hh3 k3 => ?_⟩
      refine ⟨h, n, rfl, hh3, n1, n2, fun r ns H4 rn hln hh4 k4 e4 nr hr0 => ?_⟩
      have hle := rn.le
      have hge := rn.ne
      have s14 : Same H1 H4 := (s2.new k3 hh0).new k4 hh0
      have nhl : h ≠ hl := (ne_of_none ets hh0).symm
      have nrl : r ≠ hl := by
        have : H3 hl = some (.lst (ts.map V.ref)) := k3.one (Ne.symm nhl) (s2 _ _ ets)
        exact (ne_of_none this hr0).symm
      refine ⟨h, r, ns, rfl, hh4, nr, e4, rn, fun p ps H5 hps hpb hh5 k5 nph e5 => ?_⟩
      have s15 : Same H1 H5 := s14.new k5 hh0
      have er5 := k5.one nr e4
      have ets5 := s15 _ _ ets
      have npl : p ≠ hl := fun z => by
        rw [z, ets5] at e5
        cases ts with
        | nil =>
          have : ps = [] := by simpa using e5
          rw [this] at hps; simp at hps
        | cons t ts =>
          cases ps with
          | nil => simp at hps
          | cons y ps => simp at e5
      refine ⟨fun σ H' => Same H1 H' ∧ H' r = some (.lst (ns.map V.int)) ∧ ∃ (p : Addr) (ps : List Int), p ≠ hl ∧ H' p = some (.lst (ps.map V.int)) ∧ ps.length ≤ 7 ∧ (∀ x ∈ ps, 0 ≤ x ∧ x ≤ 10000000000000000000000000000000) ∧ σ = [some (.ref a), some (.ref hl), some (.int i), some (.int c), some (.ref h), some (.ref r), some (.ref p)], ?_, ?_⟩
      · refine i_lenI er5 (dec2 (fun c1 => ?_) (fun c1 => ⟨s15, er5, p, ps, npl, e5, by omega, hpb, rfl⟩))
        refine ⟨h, 7, rfl, hh5, by decide, by decide, fun g H6 g0 g1 hh6 k6 => ?_⟩
        have e6 := k6.one nph e5
        refine i_ixI e6 g0 (by omega) (i_newL (by show 1 ≤ sizeLine; decide) fun p7 H7 hp7 s7 e7 => ?_)
        have s16 : Same H1 H6 := s15.new k6 hh0
        have hin : ps.getD g.toNat 0 ∈ ps := by
          rw [List.getD_eq_getElem?_getD, List.getElem?_eq_getElem (by omega)]; exact List.getElem_mem _
        refine ⟨s16.trans s7, s7 _ _ (k6.one nr er5), p7, [ps.getD g.toNat 0], (ne_of_none (s16 _ _ ets) hp7).symm, e7, by simp, fun x hx => ?_, rfl⟩
        have : x = ps.getD g.toNat 0 := by simpa using hx
        rw [this]; exact hpb _ hin
      · rintro σ H6 ⟨s16, er6, p, ps, npl, e6, hpl, hpb, rfl⟩
        have ets6 := s16 _ _ ets
        refine ⟨⟨_, SqL.of e6⟩, comp_lst (ps.map V.int) (fun j L σ H' ys => ys = [] ∧ (∃ ts' : List Addr, H' hl = some (.lst (ts'.map V.ref)) ∧ ts'.length ≤ 7 * i + j ∧ ∀ t ∈ ts', Held3 [hl] H' t) ∧ Kp [hl] H6 H' ∧ ∃ o, σ = [o, some (.ref r), some (.ref hl)]) ?_ ?_ ?_ ?_⟩
        · intro L H' hL s' e'
          exact ⟨rfl, ⟨ts, s' _ _ ets6, by omega, fun t ht => ((hts t ht).same s16).same s'⟩, s'.kp, _, rfl⟩
        · rintro j L σ H' ys hL ⟨_, _, k', _⟩
          exact SqL.of (k'.one npl e6)
        · rintro j x L σ H' ys hx hL ⟨rfl, ⟨ts', ets', htl', hts'⟩, k', o, rfl⟩ eL
          obtain ⟨pr, rfl, _, hpr⟩ := vints_at hx
          have hj : j < ps.length := by have := (List.getElem?_eq_some_iff.mp hx).1; rwa [List.length_map] at this
          have nLl : L ≠ hl := (ne_of_none ets6 hL).symm
          have hb := hpb pr hpr
          refine ⟨r, hl, [], pr, ns, ts', rfl, by simp, k'.one nrl er6, nrl, ets', by omega, hts', rn, hb.1, hb.2, fun H8 tu k8 e8 hh8 => bF ?_⟩
          exact ⟨k8.one nLl eL, rfl, ⟨ts' ++ [tu], e8, by simp; omega, hh8⟩, k'.trans k8, _, rfl⟩
        · rintro L σ H7 ys hL ⟨rfl, ⟨ts', ets', htl', hts'⟩, k7, o, rfl⟩ eL
          rw [List.length_map] at htl'
          refine i_newL (by show 0 ≤ sizeLine; decide) fun p8 H8 hp8 s8 e8 => ?_
          refine i_eqI (ns := []) (ms := []) (SqL.of (s8 _ _ eL)) (SqL.of e8) (bNo (by simp) ?_)
          exact ⟨⟨ts', s8 _ _ ets', by omega, fun t ht => (hts' t ht).same s8⟩, ⟨_, _, _, _, _, rfl⟩, ((s1.same s16).trans k7).same s8⟩
    · rintro σ H' ⟨⟨ts, h1, _, h2⟩, o, _⟩
      exact ⟨⟨ts, h1, h2⟩, o⟩
  · rintro σ H1 ⟨⟨ts, ets, hts⟩, o2, o3, o4, o5, o6, rfl⟩
    refine ⟨⟨_, SqL.of ets⟩, comp_lst (ts.map V.ref) (fun i D σ H' ys => ys = [] ∧ Same H1 H' ∧ ∃ o, σ = [o]) ?_ ?_ ?_ ?_⟩
    · intro D H' hD s' e'
      exact ⟨rfl, s', _, rfl⟩
    · rintro i D σ H' ys hD ⟨_, s', _⟩
      exact SqL.of (s' _ _ ets)
    · rintro i x D σ H' ys hx hD ⟨rfl, s', o, rfl⟩ eD
      obtain ⟨t, ht, rfl⟩ := ref_at hx
      obtain ⟨p, q', pc, qc, v, k, cs, _, _, _, _, _, f1, f2, f3, f4, f5⟩ := (hts t (List.mem_of_getElem? ht)).same s'
      refine i_ixT 0 (v := .ref p) f1 rfl rfl (i_ixT 1 (v := .ref q') f1 rfl rfl ?_)
      refine i_eqD (d := tripD v k cs) 1 (by decide) (rv_trip f2 f4) (rv_trip f3 f5) (bNo rfl ?_)
      exact ⟨eD, rfl, s', _, rfl⟩
    rintro nn σ H10 ys hnn ⟨rfl, s10, _⟩ e10
    refine i_newL (by show 0 ≤ sizeLine; decide) fun n2 H11 hn2 s11 e11 => ?_
    exact i_eqI (ns := []) (ms := []) (SqL.of (s11 _ _ e10)) (SqL.of e11) (q H11)

end
end K

set_option linter.all false
set_option Elab.async false
set_option maxRecDepth 100000
set_option maxHeartbeats 4000000
namespace K
open PySem PySem.Spec PyProof.Rows L2
theorem all_mk {l : PySem.W.OpenLaw} {w : World} {K : PySem.W.Frag} {h : Heap} {mg : Str → Option Value} {fa f0 f1 f2 f3 f4 f5 f6 f7 f8 f9 f10 f11 f12 f13 f14 f15 f16 : Addr} (X : K.In h) (G : h.Ns mainGlobals mg) (hfa : mg "law" = some (.ref fa))
    {od0 an0 od1 an1 od2 an2 od3 an3 od4 an4 od5 an5 od6 an6 od7 an7 od8 an8 od9 an9 od10 an10 od11 an11 od12 an12 od13 an13 od14 an14 od15 an15 od16 an16 : Option Addr} {sl0 sl1 sl2 sl3 sl4 sl5 sl6 sl7 sl8 sl9 sl10 sl11 sl12 sl13 sl14 sl15 sl16 : Array (Option Value)} {oc0 kV0 dc0 pm0 cd0 ct0 oc1 kV1 dc1 pm1 cd1 ct1 oc2 kV2 dc2 pm2 cd2 ct2 oc3 kV3 dc3 pm3 cd3 ct3 oc4 kV4 dc4 pm4 cd4 ct4 oc5 kV5 dc5 pm5 cd5 ct5 oc6 kV6 dc6 pm6 cd6 ct6 oc7 kV7 dc7 pm7 cd7 ct7 oc8 kV8 dc8 pm8 cd8 ct8 oc9 kV9 dc9 pm9 cd9 ct9 oc10 kV10 dc10 pm10 cd10 ct10 oc11 kV11 dc11 pm11 cd11 ct11 oc12 kV12 dc12 pm12 cd12 ct12 oc13 kV13 dc13 pm13 cd13 ct13 oc14 kV14 dc14 pm14 cd14 ct14 oc15 kV15 dc15 pm15 cd15 ct15 oc16 kV16 dc16 pm16 cd16 ct16 : Value}
    (a0 : PySem.W.nsIn K mainGlobals "_law_cells" = some (some (.ref f0))) (l0 : K.lookup f0 = some ⟨oc0, od0, .func (PySem.W.fnOf "_law_cells" "_law_cells" (defArgs s_law_cells) (defBody s_law_cells) (defScope s_law_cells) .none kV0 dc0 pm0 an0 cd0 ct0), sl0⟩) (c0 : PySem.W.codeIn K cd0 "_law_cells" = true) (k0 : PySem.W.keepIn K (.ref f0) = true)
    (a1 : PySem.W.nsIn K mainGlobals "_law_hand" = some (some (.ref f1))) (l1 : K.lookup f1 = some ⟨oc1, od1, .func (PySem.W.fnOf "_law_hand" "_law_hand" (defArgs s_law_hand) (defBody s_law_hand) (defScope s_law_hand) .none kV1 dc1 pm1 an1 cd1 ct1), sl1⟩) (c1 : PySem.W.codeIn K cd1 "_law_hand" = true) (k1 : PySem.W.keepIn K (.ref f1) = true)
    (a2 : PySem.W.nsIn K mainGlobals "_law_draw" = some (some (.ref f2))) (l2 : K.lookup f2 = some ⟨oc2, od2, .func (PySem.W.fnOf "_law_draw" "_law_draw" (defArgs s_law_draw) (defBody s_law_draw) (defScope s_law_draw) .none kV2 dc2 pm2 an2 cd2 ct2), sl2⟩) (c2 : PySem.W.codeIn K cd2 "_law_draw" = true) (k2 : PySem.W.keepIn K (.ref f2) = true)
    (a3 : PySem.W.nsIn K mainGlobals "_law_row" = some (some (.ref f3))) (l3 : K.lookup f3 = some ⟨oc3, od3, .func (PySem.W.fnOf "_law_row" "_law_row" (defArgs s_law_row) (defBody s_law_row) (defScope s_law_row) .none kV3 dc3 pm3 an3 cd3 ct3), sl3⟩) (c3 : PySem.W.codeIn K cd3 "_law_row" = true) (k3 : PySem.W.keepIn K (.ref f3) = true)
    (a4 : PySem.W.nsIn K mainGlobals "_law_size" = some (some (.ref f4))) (l4 : K.lookup f4 = some ⟨oc4, od4, .func (PySem.W.fnOf "_law_size" "_law_size" (defArgs s_law_size) (defBody s_law_size) (defScope s_law_size) .none kV4 dc4 pm4 an4 cd4 ct4), sl4⟩) (c4 : PySem.W.codeIn K cd4 "_law_size" = true) (k4 : PySem.W.keepIn K (.ref f4) = true)
    (a5 : PySem.W.nsIn K mainGlobals "_law_ahead" = some (some (.ref f5))) (l5 : K.lookup f5 = some ⟨oc5, od5, .func (PySem.W.fnOf "_law_ahead" "_law_ahead" (defArgs s_law_ahead) (defBody s_law_ahead) (defScope s_law_ahead) .none kV5 dc5 pm5 an5 cd5 ct5), sl5⟩) (c5 : PySem.W.codeIn K cd5 "_law_ahead" = true) (k5 : PySem.W.keepIn K (.ref f5) = true)
    (a6 : PySem.W.nsIn K mainGlobals "_law_levels" = some (some (.ref f6))) (l6 : K.lookup f6 = some ⟨oc6, od6, .func (PySem.W.fnOf "_law_levels" "_law_levels" (defArgs s_law_levels) (defBody s_law_levels) (defScope s_law_levels) .none kV6 dc6 pm6 an6 cd6 ct6), sl6⟩) (c6 : PySem.W.codeIn K cd6 "_law_levels" = true) (k6 : PySem.W.keepIn K (.ref f6) = true)
    (a7 : PySem.W.nsIn K mainGlobals "_law_prices" = some (some (.ref f7))) (l7 : K.lookup f7 = some ⟨oc7, od7, .func (PySem.W.fnOf "_law_prices" "_law_prices" (defArgs s_law_prices) (defBody s_law_prices) (defScope s_law_prices) .none kV7 dc7 pm7 an7 cd7 ct7), sl7⟩) (c7 : PySem.W.codeIn K cd7 "_law_prices" = true) (k7 : PySem.W.keepIn K (.ref f7) = true)
    (a8 : PySem.W.nsIn K mainGlobals "_law_due" = some (some (.ref f8))) (l8 : K.lookup f8 = some ⟨oc8, od8, .func (PySem.W.fnOf "_law_due" "_law_due" (defArgs s_law_due) (defBody s_law_due) (defScope s_law_due) .none kV8 dc8 pm8 an8 cd8 ct8), sl8⟩) (c8 : PySem.W.codeIn K cd8 "_law_due" = true) (k8 : PySem.W.keepIn K (.ref f8) = true)
    (a9 : PySem.W.nsIn K mainGlobals "_law_first" = some (some (.ref f9))) (l9 : K.lookup f9 = some ⟨oc9, od9, .func (PySem.W.fnOf "_law_first" "_law_first" (defArgs s_law_first) (defBody s_law_first) (defScope s_law_first) .none kV9 dc9 pm9 an9 cd9 ct9), sl9⟩) (c9 : PySem.W.codeIn K cd9 "_law_first" = true) (k9 : PySem.W.keepIn K (.ref f9) = true)
    (a10 : PySem.W.nsIn K mainGlobals "sums_ahead" = some (some (.ref f10))) (l10 : K.lookup f10 = some ⟨oc10, od10, .func (PySem.W.fnOf "sums_ahead" "sums_ahead" (defArgs s_sums_ahead) (defBody s_sums_ahead) (defScope s_sums_ahead) .none kV10 dc10 pm10 an10 cd10 ct10), sl10⟩) (c10 : PySem.W.codeIn K cd10 "sums_ahead" = true) (k10 : PySem.W.keepIn K (.ref f10) = true)
    (a11 : PySem.W.nsIn K mainGlobals "even_table" = some (some (.ref f11))) (l11 : K.lookup f11 = some ⟨oc11, od11, .func (PySem.W.fnOf "even_table" "even_table" (defArgs s_even_table) (defBody s_even_table) (defScope s_even_table) .none kV11 dc11 pm11 an11 cd11 ct11), sl11⟩) (c11 : PySem.W.codeIn K cd11 "even_table" = true) (k11 : PySem.W.keepIn K (.ref f11) = true)
    (a12 : PySem.W.nsIn K mainGlobals "least_evens" = some (some (.ref f12))) (l12 : K.lookup f12 = some ⟨oc12, od12, .func (PySem.W.fnOf "least_evens" "least_evens" (defArgs s_least_evens) (defBody s_least_evens) (defScope s_least_evens) .none kV12 dc12 pm12 an12 cd12 ct12), sl12⟩) (c12 : PySem.W.codeIn K cd12 "least_evens" = true) (k12 : PySem.W.keepIn K (.ref f12) = true)
    (a13 : PySem.W.nsIn K mainGlobals "first_even_cut" = some (some (.ref f13))) (l13 : K.lookup f13 = some ⟨oc13, od13, .func (PySem.W.fnOf "first_even_cut" "first_even_cut" (defArgs s_first_even_cut) (defBody s_first_even_cut) (defScope s_first_even_cut) .none kV13 dc13 pm13 an13 cd13 ct13), sl13⟩) (c13 : PySem.W.codeIn K cd13 "first_even_cut" = true) (k13 : PySem.W.keepIn K (.ref f13) = true)
    (a14 : PySem.W.nsIn K mainGlobals "at_price" = some (some (.ref f14))) (l14 : K.lookup f14 = some ⟨oc14, od14, .func (PySem.W.fnOf "at_price" "at_price" (defArgs s_at_price) (defBody s_at_price) (defScope s_at_price) .none kV14 dc14 pm14 an14 cd14 ct14), sl14⟩) (c14 : PySem.W.codeIn K cd14 "at_price" = true) (k14 : PySem.W.keepIn K (.ref f14) = true)
    (a15 : PySem.W.nsIn K mainGlobals "_law_right" = some (some (.ref f15))) (l15 : K.lookup f15 = some ⟨oc15, od15, .func (PySem.W.fnOf "_law_right" "_law_right" (defArgs s_law_right) (defBody s_law_right) (defScope s_law_right) .none kV15 dc15 pm15 an15 cd15 ct15), sl15⟩) (c15 : PySem.W.codeIn K cd15 "_law_right" = true) (k15 : PySem.W.keepIn K (.ref f15) = true)
    (a16 : PySem.W.nsIn K mainGlobals "law" = some (some (.ref f16))) (l16 : K.lookup f16 = some ⟨oc16, od16, .func (PySem.W.fnOf "law" "law" (defArgs s_law) (defBody s_law) (defScope s_law) .none kV16 dc16 pm16 an16 cd16 ct16), sl16⟩) (c16 : PySem.W.codeIn K cd16 "law" = true) (k16 : PySem.W.keepIn K (.ref f16) = true)
    (z0 : PySem.W.nsIn K mainGlobals "list" = some none) (z1 : PySem.W.nsIn K mainGlobals "enumerate" = some none) (z2 : PySem.W.nsIn K mainGlobals "int" = some none) (z3 : PySem.W.nsIn K mainGlobals "sum" = some none) (z4 : PySem.W.nsIn K mainGlobals "range" = some none) (z5 : PySem.W.nsIn K mainGlobals "sorted" = some none) (z6 : PySem.W.nsIn K mainGlobals "max" = some none) (z7 : PySem.W.nsIn K mainGlobals "min" = some none) (z8 : PySem.W.nsIn K mainGlobals "len" = some none) (z9 : PySem.W.nsIn K mainGlobals "repr" = some none) (z10 : PySem.W.nsIn K mainGlobals "isinstance" = some none) (z11 : PySem.W.nsIn K mainGlobals "zip" = some none) (z12 : PySem.W.nsIn K mainGlobals "bool" = some none) (z13 : PySem.W.nsIn K mainGlobals "tuple" = some none) (z14 : PySem.W.nsIn K mainGlobals "str" = some none) (z15 : PySem.W.nsIn K mainGlobals "dict" = some none) (z16 : PySem.W.nsIn K mainGlobals "abs" = some none) :
    ∃ fd : FuncData, (∀ (s : Shared) (v : Value), BindsTo s fd ⟨[v], []⟩ [("script", v)]) ∧ ∀ base : Heap, K.In base → base.Ns mainGlobals mg → FnOk l.prog w K mg base CX0 5 fa fd ["script"] (sp_law K) := by
  have e := hfa.symm.trans (PySem.W.mg_of X G a16)
  cases e
  have F0 := fun_mk (st := s_law_cells) l0 c0 k0
  have b0 := F0.binds (ps := ["script", "many"]) fun _ _ _ _ _ _ us hl => match us, hl with | [_, _], _ => rfl
  have F1 := fun_mk (st := s_law_hand) l1 c1 k1
  have b1 := F1.binds (ps := ["cell", "k"]) fun _ _ _ _ _ _ us hl => match us, hl with | [_, _], _ => rfl
  have F2 := fun_mk (st := s_law_draw) l2 c2 k2
  have b2 := F2.binds (ps := ["hand", "limit"]) fun _ _ _ _ _ _ us hl => match us, hl with | [_, _], _ => rfl
  have F3 := fun_mk (st := s_law_row) l3 c3 k3
  have b3 := F3.binds (ps := ["hand", "many"]) fun _ _ _ _ _ _ us hl => match us, hl with | [_, _], _ => rfl
  have F4 := fun_mk (st := s_law_size) l4 c4 k4
  have b4 := F4.binds (ps := ["hand", "k", "most", "far"]) fun _ _ _ _ _ _ us hl => match us, hl with | [_, _, _, _], _ => rfl
  have F5 := fun_mk (st := s_law_ahead) l5 c5 k5
  have b5 := F5.binds (ps := ["row"]) fun _ _ _ _ _ _ us hl => match us, hl with | [_], _ => rfl
  have F6 := fun_mk (st := s_law_levels) l6 c6 k6
  have b6 := F6.binds (ps := ["row"]) fun _ _ _ _ _ _ us hl => match us, hl with | [_], _ => rfl
  have F7 := fun_mk (st := s_law_prices) l7 c7 k7
  have b7 := F7.binds (ps := ["hand", "row"]) fun _ _ _ _ _ _ us hl => match us, hl with | [_, _], _ => rfl
  have F8 := fun_mk (st := s_law_due) l8 c8 k8
  have b8 := F8.binds (ps := ["row", "price"]) fun _ _ _ _ _ _ us hl => match us, hl with | [_, _], _ => rfl
  have F9 := fun_mk (st := s_law_first) l9 c9 k9
  have b9 := F9.binds (ps := ["row", "many", "even"]) fun _ _ _ _ _ _ us hl => match us, hl with | [_, _, _], _ => rfl
  have F10 := fun_mk (st := s_sums_ahead) l10 c10 k10
  have b10 := F10.binds (ps := ["row"]) fun _ _ _ _ _ _ us hl => match us, hl with | [_], _ => rfl
  have F11 := fun_mk (st := s_even_table) l11 c11 k11
  have b11 := F11.binds (ps := ["row", "most"]) fun _ _ _ _ _ _ us hl => match us, hl with | [_, _], _ => rfl
  have F12 := fun_mk (st := s_least_evens) l12 c12 k12
  have b12 := F12.binds (ps := ["table"]) fun _ _ _ _ _ _ us hl => match us, hl with | [_], _ => rfl
  have F13 := fun_mk (st := s_first_even_cut) l13 c13 k13
  have b13 := F13.binds (ps := ["row", "many", "table"]) fun _ _ _ _ _ _ us hl => match us, hl with | [_, _, _], _ => rfl
  have F14 := fun_mk (st := s_at_price) l14 c14 k14
  have b14 := F14.binds (ps := ["row", "price"]) fun _ _ _ _ _ _ us hl => match us, hl with | [_, _], _ => rfl
  have F15 := fun_mk (st := s_law_right) l15 c15 k15
  have b15 := F15.binds (ps := ["row", "price", "held"]) fun _ _ _ _ _ _ us hl => match us, hl with | [_, _, _], _ => rfl
  have F16 := fun_mk (st := s_law) l16 c16 k16
  have b16 := F16.binds (ps := ["script"]) fun _ _ _ _ _ _ us hl => match us, hl with | [_], _ => rfl
  have B : Bl mg := ⟨PySem.W.mg_none_of X G z0, PySem.W.mg_none_of X G z1, PySem.W.mg_none_of X G z2, PySem.W.mg_none_of X G z3, PySem.W.mg_none_of X G z4, PySem.W.mg_none_of X G z5, PySem.W.mg_none_of X G z6, PySem.W.mg_none_of X G z7, PySem.W.mg_none_of X G z8, PySem.W.mg_none_of X G z9, PySem.W.mg_none_of X G z10, PySem.W.mg_none_of X G z11, PySem.W.mg_none_of X G z12, PySem.W.mg_none_of X G z13, PySem.W.mg_none_of X G z14, PySem.W.mg_none_of X G z15, PySem.W.mg_none_of X G z16⟩
  refine ⟨PySem.W.fnOf "law" "law" (defArgs s_law) (defBody s_law) (defScope s_law) .none kV16 dc16 pm16 an16 cd16 ct16, fun s v => .of_eq rfl, fun base _ _ => ?_⟩
  have D_law_cells : Def l.prog w K mg base 1 "_law_cells" ["script", "many"] (sp_law_cells K) := ⟨f0, _, ok_law_cells (P := l.prog) (w := w) (base := base) B  F0, b0, k0, PySem.W.mg_of X G a0⟩
  have D_law_hand : Def l.prog w K mg base 1 "_law_hand" ["cell", "k"] sp_law_hand := ⟨f1, _, ok_law_hand (P := l.prog) (w := w) (base := base) B  F1, b1, k1, PySem.W.mg_of X G a1⟩
  have D_law_draw : Def l.prog w K mg base 1 "_law_draw" ["hand", "limit"] sp_law_draw := ⟨f2, _, ok_law_draw (P := l.prog) (w := w) (base := base) B  F2, b2, k2, PySem.W.mg_of X G a2⟩
  have D_law_row : Def l.prog w K mg base 2 "_law_row" ["hand", "many"] sp_law_row := ⟨f3, _, ok_law_row (P := l.prog) (w := w) (base := base) B D_law_draw F3, b3, k3, PySem.W.mg_of X G a3⟩
  have D_law_size : Def l.prog w K mg base 2 "_law_size" ["hand", "k", "most", "far"] sp_law_size := ⟨f4, _, ok_law_size (P := l.prog) (w := w) (base := base) B D_law_draw F4, b4, k4, PySem.W.mg_of X G a4⟩
  have D_law_ahead : Def l.prog w K mg base 1 "_law_ahead" ["row"] sp_law_ahead := ⟨f5, _, ok_law_ahead (P := l.prog) (w := w) (base := base) B  F5, b5, k5, PySem.W.mg_of X G a5⟩
  have D_law_levels : Def l.prog w K mg base 2 "_law_levels" ["row"] sp_law_levels := ⟨f6, _, ok_law_levels (P := l.prog) (w := w) (base := base) B D_law_ahead F6, b6, k6, PySem.W.mg_of X G a6⟩
  have D_law_prices : Def l.prog w K mg base 3 "_law_prices" ["hand", "row"] sp_law_prices := ⟨f7, _, ok_law_prices (P := l.prog) (w := w) (base := base) B D_law_levels D_law_draw F7, b7, k7, PySem.W.mg_of X G a7⟩
  have D_law_due : Def l.prog w K mg base 2 "_law_due" ["row", "price"] sp_law_due := ⟨f8, _, ok_law_due (P := l.prog) (w := w) (base := base) B D_law_ahead F8, b8, k8, PySem.W.mg_of X G a8⟩
  have D_law_first : Def l.prog w K mg base 3 "_law_first" ["row", "many", "even"] sp_law_first := ⟨f9, _, ok_law_first (P := l.prog) (w := w) (base := base) B D_law_levels D_law_ahead F9, b9, k9, PySem.W.mg_of X G a9⟩
  have D_sums_ahead : Def l.prog w K mg base 1 "sums_ahead" ["row"] sp_sums_ahead := ⟨f10, _, ok_sums_ahead (P := l.prog) (w := w) (base := base) B  F10, b10, k10, PySem.W.mg_of X G a10⟩
  have D_even_table : Def l.prog w K mg base 2 "even_table" ["row", "most"] sp_even_table := ⟨f11, _, ok_even_table (P := l.prog) (w := w) (base := base) B D_sums_ahead F11, b11, k11, PySem.W.mg_of X G a11⟩
  have D_least_evens : Def l.prog w K mg base 1 "least_evens" ["table"] sp_least_evens := ⟨f12, _, ok_least_evens (P := l.prog) (w := w) (base := base) B  F12, b12, k12, PySem.W.mg_of X G a12⟩
  have D_first_even_cut : Def l.prog w K mg base 2 "first_even_cut" ["row", "many", "table"] sp_first_even_cut := ⟨f13, _, ok_first_even_cut (P := l.prog) (w := w) (base := base) B D_sums_ahead F13, b13, k13, PySem.W.mg_of X G a13⟩
  have D_at_price : Def l.prog w K mg base 3 "at_price" ["row", "price"] sp_at_price := ⟨f14, _, ok_at_price (P := l.prog) (w := w) (base := base) B D_even_table D_least_evens D_first_even_cut F14, b14, k14, PySem.W.mg_of X G a14⟩
  have D_law_right : Def l.prog w K mg base 4 "_law_right" ["row", "price", "held"] sp_law_right := ⟨f15, _, ok_law_right (P := l.prog) (w := w) (base := base) B D_law_due D_law_first D_at_price F15, b15, k15, PySem.W.mg_of X G a15⟩
  exact ok_law (P := l.prog) (w := w) (base := base) B D_law_cells D_law_hand D_law_row D_law_size D_law_prices D_law_draw D_law_right F16
theorem walk {l : PySem.W.OpenLaw} {q : Program} {loose : List Str} {XP : (Str → Option Value) → Heap → Prop} {YP : World → Heap → Prop} {d : DefRec} {K : Params → PySem.W.Frag} (hn : l.most = some 63) (hdf : d.params.defaults = [])
    (hY : ∀ (w : World) (h : Heap), YP w h → (K w.params).In h)
    (F : ∀ (w : World) (mg : Str → Option Value) (fa : Addr) (h : Heap), (K w.params).In h → h.Ns mainGlobals mg → mg d.name = some (.ref fa) →
      ∃ fd : FuncData, (∀ (s : Shared) (u : Value), BindsTo s fd ⟨[u], []⟩ [("script", u)]) ∧ ∀ base : Heap, (K w.params).In base → base.Ns mainGlobals mg → FnOk l.prog w (K w.params) mg base CX0 5 fa fd ["script"] (sp_law (K w.params))) :
    PySem.W.WalkO q loose XP YP l.row.toRowW d [] (fun f vs => PySem.call f vs) :=
  L2.walk_of (n := 63) (k := 5) (x := "script") (CX := fun _ => CX0) (sp := fun w => sp_law (K w.params)) hn (by decide) hdf ⟨rfl, by decide, by decide, rfl⟩ hY F (fun _ _ a ns hl _ hS => ⟨a, ns, rfl, hS, hl, fun _ => rfl⟩) fun _ _ _ _ _ z => z
end K
open PySem PySem.W PyProof.Rows
set_option maxRecDepth 100000 in
set_option maxHeartbeats 0 in
theorem PySem.Challenge.cw_piecebounds_k28_least_costs_at_prices_holds : PySem.Challenge.rw_piecebounds_k28_least_costs_at_prices.Holds := by
  w_on; o_law; k_head; (case hw => w_witness2)
  k_fill
  refine K.walk (l := PySem.Challenge.rw_piecebounds_k28_least_costs_at_prices) rfl rfl (fun w h Y => PySem.W.kIn_of Y) ?F
  case F =>
    intro w mg fa h KX G hmg
    refine' K.all_mk KX G hmg ?a0 ?l0 ?c0 ?k0 ?a1 ?l1 ?c1 ?k1 ?a2 ?l2 ?c2 ?k2 ?a3 ?l3 ?c3 ?k3 ?a4 ?l4 ?c4 ?k4 ?a5 ?l5 ?c5 ?k5 ?a6 ?l6 ?c6 ?k6 ?a7 ?l7 ?c7 ?k7 ?a8 ?l8 ?c8 ?k8 ?a9 ?l9 ?c9 ?k9 ?a10 ?l10 ?c10 ?k10 ?a11 ?l11 ?c11 ?k11 ?a12 ?l12 ?c12 ?k12 ?a13 ?l13 ?c13 ?k13 ?a14 ?l14 ?c14 ?k14 ?a15 ?l15 ?c15 ?k15 ?a16 ?l16 ?c16 ?k16 ?z0 ?z1 ?z2 ?z3 ?z4 ?z5 ?z6 ?z7 ?z8 ?z9 ?z10 ?z11 ?z12 ?z13 ?z14 ?z15 ?z16
    (case a0 => k_is); (case l0 => k_is); (case c0 => k_is); (case k0 => k_is); (case a1 => k_is); (case l1 => k_is); (case c1 => k_is); (case k1 => k_is); (case a2 => k_is); (case l2 => k_is); (case c2 => k_is); (case k2 => k_is); (case a3 => k_is); (case l3 => k_is); (case c3 => k_is); (case k3 => k_is); (case a4 => k_is); (case l4 => k_is); (case c4 => k_is); (case k4 => k_is); (case a5 => k_is); (case l5 => k_is); (case c5 => k_is); (case k5 => k_is); (case a6 => k_is); (case l6 => k_is); (case c6 => k_is); (case k6 => k_is); (case a7 => k_is); (case l7 => k_is); (case c7 => k_is); (case k7 => k_is); (case a8 => k_is); (case l8 => k_is); (case c8 => k_is); (case k8 => k_is); (case a9 => k_is); (case l9 => k_is); (case c9 => k_is); (case k9 => k_is); (case a10 => k_is); (case l10 => k_is); (case c10 => k_is); (case k10 => k_is); (case a11 => k_is); (case l11 => k_is); (case c11 => k_is); (case k11 => k_is); (case a12 => k_is); (case l12 => k_is); (case c12 => k_is); (case k12 => k_is); (case a13 => k_is); (case l13 => k_is); (case c13 => k_is); (case k13 => k_is); (case a14 => k_is); (case l14 => k_is); (case c14 => k_is); (case k14 => k_is); (case a15 => k_is); (case l15 => k_is); (case c15 => k_is); (case k15 => k_is); (case a16 => k_is); (case l16 => k_is); (case c16 => k_is); (case k16 => k_is); (case z0 => k_is); (case z1 => k_is); (case z2 => k_is); (case z3 => k_is); (case z4 => k_is); (case z5 => k_is); (case z6 => k_is); (case z7 => k_is); (case z8 => k_is); (case z9 => k_is); (case z10 => k_is); (case z11 => k_is); (case z12 => k_is); (case z13 => k_is); (case z14 => k_is); (case z15 => k_is); (case z16 => k_is)

