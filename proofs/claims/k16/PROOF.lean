import PyProof.Rows.All
import Wide.All
import OpenK.AllK
import Wide.FinOn
import Lean
import PyProof.EqAt
import PyProof.EqKinds
import PyProof.TupleCall
import PySem.Challenge.RW_piecebounds_k16_no_cuts_of_that_number
set_option Elab.async false
set_option linter.all false
set_option maxRecDepth 100000
/-! THE HAND LAYER, for ints, bools, texts, own classes, LISTS and tuples (index, slices, in, append, pop ..), calls, loops. Paste it whole ahead of your own text; what your proof does not reach may be deleted. -/
namespace L2
open PySem PySem.Spec PyProof.Rows

/-- a key: an int or a str -/
abbrev Key := Sum Int Str
def keyIs : Key → Value → Bool
  | .inl k, v => Value.isInt k v
  | .inr x, v => Value.isStrOf x v
def keyH (w : World) : Key → Int
  | .inl k => hashInt k
  | .inr x => hashStr w x
theorem keyIs_shape : ∀ {k : Key} {v : Value}, keyIs k v = true → (∃ i t, k = Sum.inl i ∧ v = Value.int i t) ∨ (∃ x t, k = Sum.inr x ∧ v = Value.str x t)
  | .inl i, v, h => by
    obtain ⟨t, e⟩ := Value.isInt_shape (k := i) (v := v) h
    exact .inl ⟨i, t, rfl, e⟩
  | .inr x, v, h => by
    obtain ⟨t, e⟩ := Value.isStrOf_shape (x := x) (v := v) h
    exact .inr ⟨x, t, rfl, e⟩
theorem key_ll (a b : Int) : decide ((Sum.inl a : Key) = Sum.inl b) = (a == b) := by
  by_cases e : a = b
  · subst e; simp
  · have h : ¬ (Sum.inl a : Key) = Sum.inl b := fun q => e (Sum.inl.inj q)
    rw [decide_eq_false h]
    exact (beq_eq_false_iff_ne.mpr e).symm
theorem key_rr (a b : Str) : decide ((Sum.inr a : Key) = Sum.inr b) = decide (a = b) := by
  by_cases e : a = b
  · subst e; simp
  · have h : ¬ (Sum.inr a : Key) = Sum.inr b := fun q => e (Sum.inr.inj q)
    rw [decide_eq_false h, decide_eq_false e]
theorem key_lr (a : Int) (b : Str) : decide ((Sum.inl a : Key) = Sum.inr b) = false := decide_eq_false (fun q => nomatch q)
theorem key_rl (a : Str) (b : Int) : decide ((Sum.inr a : Key) = Sum.inl b) = false := decide_eq_false (fun q => nomatch q)

def mixKind (prog : Program) (w : World) : PySem.KeyKind prog w Key where
  is := keyIs
  hash := keyH w
  inj := fun v a b ha hb => by
    rcases keyIs_shape ha with ⟨i, t, rfl, rfl⟩ | ⟨x, t, rfl, rfl⟩
    · rcases keyIs_shape hb with ⟨j, u, rfl, e⟩ | ⟨y, u, rfl, e⟩
      · injection e with e1 _; rw [e1]
      · exact nomatch e
    · rcases keyIs_shape hb with ⟨j, u, rfl, e⟩ | ⟨y, u, rfl, e⟩
      · exact nomatch e
      · injection e with e1 _; rw [e1]
  byValue := fun k v h => by
    rcases keyIs_shape h with ⟨i, t, rfl, rfl⟩ | ⟨x, t, rfl, rfl⟩ <;> rfl
  pyHash := fun hv h => by
    rcases keyIs_shape hv with ⟨i, t, rfl, rfl⟩ | ⟨x, t, rfl, rfl⟩
    · exact wpAny_pyHash_int h
    · exact wpAny_pyHash_str h
  eqBool := fun hu hv h => by
    rcases keyIs_shape hu with ⟨i, t, rfl, rfl⟩ | ⟨x, t, rfl, rfl⟩
    · rcases keyIs_shape hv with ⟨j, u, rfl, rfl⟩ | ⟨y, u, rfl, rfl⟩
      · rw [key_ll] at h; exact wpAny_eqBool_int h
      · rw [key_lr] at h; exact SeqAt.EqAt.int_str i t y u _ _ _ _ h
    · rcases keyIs_shape hv with ⟨j, u, rfl, rfl⟩ | ⟨y, u, rfl, rfl⟩
      · rw [key_rl] at h; exact SeqAt.EqAt.str_int x t j u _ _ _ _ h
      · rw [key_rr] at h; exact wpAny_eqBool_str h
  «strs» := fun k x t v h => by
    rcases keyIs_shape h with ⟨i, u, rfl, e⟩ | ⟨y, u, rfl, e⟩
    · exact nomatch e
    · injection e with e1 _
      subst e1
      cases v <;> rfl

end L2

namespace L2
open PySem PySem.Spec PyProof.Rows

/-- a value, without the heap -/
inductive V where
  | non | bl (b : Bool) | int (i : Int) | str (x : Str) | byt (b : Array UInt8) | flt (b : UInt64) | ref (a : Addr) | ty (n : String)
  deriving DecidableEq

def RelV : V → Value → Prop
  | .non, u => u = Value.none
  | .bl b, u => u = Value.bool b
  | .int i, u => ∃ t, u = Value.int i t
  | .str x, u => ∃ t, u = Value.str x t
  | .byt b, u => ∃ t, u = Value.bytes b t
  | .flt b, u => ∃ t, u = Value.float b t
  | .ref a, u => u = Value.ref a
  | .ty n, u => u = Value.type n

abbrev Vals : List V → List Value → Prop := Paired RelV
theorem Vals.length {xs : List V} {us : List Value} (r : Vals xs us) : xs.length = us.length := Paired.length r
theorem Vals.get : ∀ {xs : List V} {us : List Value} {i : Nat} {x : V}, Vals xs us → xs[i]? = some x → ∃ u, us[i]? = some u ∧ RelV x u
  | _, _, _, _, .nil, e => by simp at e
  | _, _, 0, _, .cons r _, e => by simp at e; subst e; exact ⟨_, rfl, r⟩
  | _, _, i + 1, x, .cons _ t, e => by
    obtain ⟨u, h1, h2⟩ := Vals.get (i := i) (x := x) t (by simpa using e)
    exact ⟨u, by simpa using h1, h2⟩
theorem Vals.set {x : V} {u : Value} (r : RelV x u) : ∀ {xs : List V} {us : List Value} (i : Nat), Vals xs us → Vals (xs.set i x) (us.set i u)
  | _, _, _, .nil => .nil
  | _, _, 0, .cons _ t => .cons r t
  | _, _, i + 1, .cons q t => .cons q (Vals.set r i t)
theorem Vals.append : ∀ {xs ys : List V} {us ws : List Value}, Vals xs us → Vals ys ws → Vals (xs ++ ys) (us ++ ws)
  | _, _, _, _, .nil, s => s
  | _, _, _, _, .cons r t, s => .cons r (Vals.append t s)
theorem Vals.take : ∀ {xs : List V} {us : List Value} (n : Nat), Vals xs us → Vals (xs.take n) (us.take n)
  | _, _, 0, _ => .nil
  | _, _, _ + 1, .nil => .nil
  | _, _, n + 1, .cons r t => .cons r (Vals.take n t)
theorem Vals.drop : ∀ {xs : List V} {us : List Value} (n : Nat), Vals xs us → Vals (xs.drop n) (us.drop n)
  | _, _, 0, r => r
  | _, _, _ + 1, .nil => .nil
  | _, _, n + 1, .cons _ t => Vals.drop n t
def RelO : Option V → Option Value → Prop
  | some v, some u => RelV v u
  | none, none => True
  | _, _ => False
def KV {κ : Type} : List (κ × V) → List (κ × Value) → Prop := Paired fun (p : κ × V) (q : κ × Value) => p.1 = q.1 ∧ RelV p.2 q.2

/-- a key of a dict (00_mix): an int or a text -/
def kV : Key → V
  | .inl i => .int i
  | .inr x => .str x

/-- what stands at a tracked address -/
inductive HO where
  /-- a list -/
  | lst (xs : List V)
  /-- a tuple (never changes) -/
  | tup (xs : List V)
  /-- a dict whose keys are ints and texts; one whose keys are tuples of ints and texts (the empty one is both) -/
  | dK (kvs : List (Key × V)) | dT (kvs : List (List Key × V))
  /-- a set of ints: its members, its size -/
  | set (S : Int → Bool) (n : Nat)
  /-- an instance of the class at C, its dict at dx, its attributes -/
  | ins (C dx : Addr) (fs : List (Str × V))
  /-- the dict of the instance at x -/
  | own (x : Addr)
  /-- the dict of an exception -/
  | xd (fs : List (Str × V))
  /-- a bound method, f of x -/
  | met (f x : Addr)
  /-- a range object lo, lo + 1, .. below hi -/
  | rng (lo hi : Int)
  /-- a thing that is known to the object (the script; a dict while a loop walks it): read, never written while it is so -/
  | frz (o : Obj) (u : HO)
  /-- a code object's table -/
  | tbl (ps : Array Value)
  /-- any other thing, by what is true of its one object (a def of one's own: SetO a S n := HO.ext fun h => ..) -/
  | ext (φ : Heap → Prop)

abbrev Hp := Addr → Option HO
def upd (H : Hp) (a : Addr) (o : HO) : Hp := fun b => if b = a then some o else H b
theorem upd_same {H : Hp} {a : Addr} {o : HO} : upd H a o a = some o := by unfold upd; rw [if_pos rfl]
theorem upd_ne {H : Hp} {a b : Addr} {o : HO} (h : b ≠ a) : upd H a o b = H b := by unfold upd; rw [if_neg h]
theorem ne_of_none {H : Hp} {a b : Addr} {o : HO} (h : H a = some o) (h' : H b = none) : a ≠ b := by
  intro e; subst e; rw [h] at h'; cases h'

section
variable (P : Program) (w : World)
def ObjOk (H : Hp) (h : Heap) (a : Addr) : HO → Prop
  | .lst xs => xs.length ≤ sizeLine ∧ ∃ (its : List Value) (n : Nat), Vals xs its ∧ h.get? a = some { cls := .type "list", data := .seq its.toArray n }
  | .tup xs => xs.length ≤ sizeLine ∧ ∃ its : List Value, Vals xs its ∧ IsTup h a its.toArray
  | .dK kvs => kvs.length ≤ sizeLine ∧ (a == sysModules) = false ∧ ∃ vs, KV kvs vs ∧ h.DictOf (mixKind P w) a vs
  | .dT kvs => kvs.length ≤ sizeLine ∧ (a == sysModules) = false ∧ ∃ xs : List (List Key × Addr × Value),
      Paired (fun (p : List Key × V) (q : List Key × Addr × Value) => p.1 = q.1 ∧ H q.2.1 = some (.tup (p.1.map kV)) ∧ RelV p.2 q.2.2) kvs xs ∧
      ∃ o es ep, h.get? a = some o ∧ o.ExactDict ∧ o.data = .dict es ep ∧ es.toList = xs.map (entryOfKey (tupleKind (mixKind P w))) ∧ (xs.map (·.1)).Nodup
  | .set S n => h.SetOf (intKind P w) a S n
  | .ins C dx fs => H dx = some (.own a) ∧ fs.length ≤ 1000 ∧ dx ≠ a ∧ h.get? a = some (PySem.W.instObj C dx) ∧
      ∃ mA, h.Ns1 dx mA ∧ (∀ f, RelO (fs.lookup f) (mA f)) ∧ PySem.Within mA (fs.map (·.1))
  | .own _ => ∃ o, h.get? a = some o
  | .xd fs => ∃ mA, h.Ns1 a mA ∧ ∀ f, RelO (fs.lookup f) (mA f)
  | .rng lo hi => ∃ t u v, h.get? a = some { cls := .type "range", data := .fields #[.int lo t, .int hi u, .int 1 v] }
  | .frz o u => h.get? a = some o ∧ ObjOk H h a u
  | .tbl ps => h.get? a = some { cls := .none, data := .fields ps }
  | .met f x => h.get? a = some (PySem.W.methodObj (.ref f) (.ref x))
  | .ext φ => φ h ∧ (∃ o, h.get? a = some o) ∧ ∀ h1 h2 : Heap, φ h1 → (∀ o, h1.get? a = some o → h2.get? a = some o) → φ h2
/-- the abstract heap is held -/
def HOk (H : Hp) (h : Heap) : Prop := ∀ a o, H a = some o → ObjOk P w H h a o
end

section
variable {P : Program} {w : World} {H H' : Hp} {h h' : Heap} {a : Addr} {o : HO}
theorem ObjOk.lt (x : ObjOk P w H h a o) : a < h.objs.size := by
  cases o with
  | lst xs => obtain ⟨_, _, _, _, e⟩ := x; exact Heap.lt_size e
  | tup xs => obtain ⟨_, _, _, p⟩ := x; exact p.lt
  | dK kvs => obtain ⟨_, _, _, _, o, _, _, e, _⟩ := x; exact Heap.lt_size e
  | dT kvs => obtain ⟨_, _, _, _, o, _, _, e, _⟩ := x; exact Heap.lt_size e
  | set S n => obtain ⟨o, _, _, _, e, _⟩ := x; exact Heap.lt_size e
  | ins C dx fs => obtain ⟨_, _, _, e, _⟩ := x; exact Heap.lt_size e
  | own y => obtain ⟨_, e⟩ := x; exact Heap.lt_size e
  | xd fs => obtain ⟨_, ⟨_, _, _, e, _⟩, _⟩ := x; exact Heap.lt_size e
  | rng lo hi => obtain ⟨_, _, _, e⟩ := x; exact Heap.lt_size e
  | frz ob u => obtain ⟨e, _⟩ := x; exact Heap.lt_size e
  | tbl ps => exact Heap.lt_size (show h.get? a = some _ from x)
  | met f y => exact Heap.lt_size (show h.get? a = some _ from x)
  | ext φ => obtain ⟨_, ⟨_, e⟩, _⟩ := x; exact Heap.lt_size e
theorem Paired.mapP {α β : Type} {F G : α → β → Prop} : ∀ {l₁ : List α} {l₂ : List β}, Paired F l₁ l₂ → (∀ a b, F a b → G a b) → Paired G l₁ l₂
  | _, _, .nil, _ => .nil
  | _, _, .cons r t, f => .cons (f _ _ r) (Paired.mapP t f)
/-- what an object's description leans on: its own object, its own dict, the tuples -/
theorem ObjOk.stay (x : ObjOk P w H h a o) (k : ∀ b u, (b = a ∨ H b = some (.own a)) → h.get? b = some u → h'.get? b = some u)
    (ho : ∀ b, H b = some (.own a) → H' b = some (.own a)) (ht : ∀ b xs, H b = some (.tup xs) → H' b = some (.tup xs)) : ObjOk P w H' h' a o := by
  induction o with
  | lst xs => obtain ⟨z, its, n, r, e⟩ := x; exact ⟨z, its, n, r, k _ _ (.inl rfl) e⟩
  | tup xs => obtain ⟨z, its, r, ob, e, c⟩ := x; exact ⟨z, its, r, ob, k _ _ (.inl rfl) e, c⟩
  | dK kvs => obtain ⟨z, y, vs, r, ob, es, ep, e, c⟩ := x; exact ⟨z, y, vs, r, ob, es, ep, k _ _ (.inl rfl) e, c⟩
  | dT kvs =>
    obtain ⟨z, y, xs, r, ob, es, ep, e, c⟩ := x
    exact ⟨z, y, xs, Paired.mapP r fun p q z => ⟨z.1, ht _ _ z.2.1, z.2.2⟩, ob, es, ep, k _ _ (.inl rfl) e, c⟩
  | set S n => obtain ⟨ob, es, ep, t, e, c⟩ := x; exact ⟨ob, es, ep, t, k _ _ (.inl rfl) e, c⟩
  | ins C dx fs =>
    obtain ⟨d, z, ne, e, mA, ⟨od, es, ep, e2, c⟩, r⟩ := x
    exact ⟨ho _ d, z, ne, k _ _ (.inl rfl) e, mA, ⟨od, es, ep, k _ _ (.inr d) e2, c⟩, r⟩
  | own y => obtain ⟨ob, e⟩ := x; exact ⟨ob, k _ _ (.inl rfl) e⟩
  | xd fs => obtain ⟨mA, ⟨od, es, ep, e, c⟩, r⟩ := x; exact ⟨mA, ⟨od, es, ep, k _ _ (.inl rfl) e, c⟩, r⟩
  | rng lo hi => obtain ⟨t, u, v, e⟩ := x; exact ⟨t, u, v, k _ _ (.inl rfl) e⟩
  | frz ob u ih => obtain ⟨e, q⟩ := x; exact ⟨k _ _ (.inl rfl) e, ih q⟩
  | tbl ps =>
    have e : h.get? a = some { cls := .none, data := .fields ps } := x
    show h'.get? a = some { cls := .none, data := .fields ps }
    exact k a _ (.inl rfl) e
  | met f y =>
    have e : h.get? a = some (PySem.W.methodObj (.ref f) (.ref y)) := x
    show h'.get? a = some (PySem.W.methodObj (.ref f) (.ref y))
    exact k a _ (.inl rfl) e
  | ext φ => obtain ⟨p, ⟨o, e⟩, st⟩ := x; exact ⟨st _ _ p fun o q => k _ _ (.inl rfl) q, ⟨o, k _ _ (.inl rfl) e⟩, st⟩
theorem HOk.lt (x : HOk P w H h) (e : H a = some o) : a < h.objs.size := (x a o e).lt
theorem HOk.fresh (x : HOk P w H h) (e : h.objs.size ≤ a) : H a = none := by
  cases q : H a with
  | none => rfl
  | some u => exact absurd (Nat.lt_of_lt_of_le (x.lt q) e) (Nat.lt_irrefl _)
/-- every object of the heap is kept -/
theorem HOk.kept (x : HOk P w H h) (k : ∀ b u, h.get? b = some u → h'.get? b = some u) : HOk P w H h' := fun a o e =>
  (x a o e).stay (fun b u _ q => k b u q) (fun _ q => q) fun _ _ q => q
/-- a new object is laid and tracked -/
theorem HOk.laid (x : HOk P w H h) (k : ∀ b u, h.get? b = some u → h'.get? b = some u) (hp : h.objs.size ≤ a) (new : ObjOk P w (upd H a o) h' a o) : HOk P w (upd H a o) h' := fun b u e => by
  have hn := x.fresh hp
  by_cases hb : b = a
  · subst hb; rw [upd_same] at e; cases e; exact new
  · rw [upd_ne hb] at e
    exact (x b u e).stay (fun c v _ q => k c v q) (fun c q => by rw [upd_ne (ne_of_none q hn)]; exact q) fun c xs q => by rw [upd_ne (ne_of_none q hn)]; exact q
end

/-- what may be read as u: it is u, or a known u -/
def Rd (H : Hp) (a : Addr) (u : HO) : Prop := H a = some u ∨ ∃ o, H a = some (.frz o u)
theorem Rd.ok {P : Program} {w : World} {H : Hp} {h : Heap} {a : Addr} {u : HO} (r : Rd H a u) (x : HOk P w H h) : ObjOk P w H h a u := by
  rcases r with r | ⟨o, r⟩
  · exact x a u r
  · obtain ⟨_, q⟩ := x a _ r
    exact q
/-- what may be written -/
def Mut : Option HO → Prop
  | some (.lst _) => True
  | some (.dK _) => True
  | some (.dT _) => True
  | some (.set _ _) => True
  | some (.ins _ _ _) => True
  | some (.ext _) => True
  | _ => False
section
variable {P : Program} {w : World} {H : Hp} {h h' : Heap} {x e : Addr} {o' : HO}
/-- the object at e is changed: x itself, or the dict of the instance x -/
theorem HOk.write (ok : HOk P w H h) (mu : Mut (H x)) (he : e = x ∨ H e = some (.own x)) (k : ∀ b u, b ≠ e → h.get? b = some u → h'.get? b = some u) (heo : ∃ u, h'.get? e = some u)
    (new : ObjOk P w (upd H x o') h' x o') : HOk P w (upd H x o') h' := fun b u q => by
  have nown : ∀ c y, H c = some (.own y) → c ≠ x := fun c y r z => by subst z; rw [r] at mu; exact mu
  have ntup : ∀ c xs, H c = some (.tup xs) → c ≠ x := fun c xs r z => by subst z; rw [r] at mu; exact mu
  by_cases hb : b = x
  · subst hb; rw [upd_same] at q; cases q; exact new
  · rw [upd_ne hb] at q
    by_cases hbe : b = e
    · have q' : H b = some (.own x) := by
        rcases he with z | z
        · exact absurd (hbe.trans z) hb
        · rw [hbe]; exact z
      rw [q] at q'; cases q'
      obtain ⟨v, hv⟩ := heo
      exact ⟨v, by rw [hbe]; exact hv⟩
    · refine (ok b u q).stay (fun c v hc r => k c v ?_ r) (fun c r => by rw [upd_ne (nown c b r)]; exact r) fun c xs r => by rw [upd_ne (ntup c xs r)]; exact r
      rcases hc with rfl | hc
      · exact hbe
      · rintro rfl
        rcases he with z | z
        · exact nown c b hc z
        · rw [hc] at z; cases z; exact hb rfl
end

/-! ### kept unless tracked; of the frames at fs (the callers') the slots may change (an exception that passes writes there); of the records at ex (iterators) nothing is said -/
structure Un (fs ex : List Addr) (H H' : Hp) (h h' : Heap) : Prop where
  keep : ∀ b o, h.get? b = some o → H b = none → b ∉ fs → b ∉ ex → h'.get? b = some o
  slot : ∀ b o, h.get? b = some o → H b = none → b ∈ fs → b ∉ ex → ∃ sl, h'.get? b = some { o with slots := sl }
  free : ∀ b o, h.get? b = some o → H b = none → b ∉ ex → H' b = none
  there : ∀ b o, h.get? b = some o → b ∉ ex → ∃ o', h'.get? b = some o'
  tups : ∀ b xs, H b = some (.tup xs) → H' b = some (.tup xs)
  frzs : ∀ b o u, H b = some (.frz o u) → H' b = some (.frz o u)
  tbls : ∀ b ps, H b = some (.tbl ps) → ∃ more, H' b = some (.tbl (ps ++ more))
section
variable {fs fs' ex ex' : List Addr} {H H1 H2 : Hp} {h h1 h2 h' : Heap} {a x e : Addr} {o : HO}
theorem Un.any (u : Un fs ex H H1 h h1) {b : Addr} {ob : Obj} (q : h.get? b = some ob) (n : H b = none) (hx : b ∉ ex) : ∃ sl, h1.get? b = some { ob with slots := sl } := by
  by_cases hb : b ∈ fs
  · exact u.slot b ob q n hb hx
  · exact ⟨ob.slots, u.keep b ob q n hb hx⟩
theorem Un.trans (a : Un fs ex H H1 h h1) (b : Un fs ex H1 H2 h1 h2) : Un fs ex H H2 h h2 where
  keep := fun c ob q n hc hx => b.keep c ob (a.keep c ob q n hc hx) (a.free c ob q n hx) hc hx
  slot := fun c ob q n hc hx => by
    obtain ⟨sl, e1⟩ := a.slot c ob q n hc hx
    obtain ⟨sl', e2⟩ := b.slot c _ e1 (a.free c ob q n hx) hc hx
    exact ⟨sl', e2⟩
  free := fun c ob q n hx => by
    obtain ⟨o', e1⟩ := a.there c ob q hx
    exact b.free c o' e1 (a.free c ob q n hx) hx
  there := fun c ob q hx => by
    obtain ⟨o', e1⟩ := a.there c ob q hx
    exact b.there c o' e1 hx
  tups := fun c xs q => b.tups c xs (a.tups c xs q)
  frzs := fun c ob xs q => b.frzs c ob xs (a.frzs c ob xs q)
  tbls := fun c ps q => by
    obtain ⟨m1, e1⟩ := a.tbls c ps q
    obtain ⟨m2, e2⟩ := b.tbls c _ e1
    exact ⟨m1 ++ m2, by rw [e2, Array.append_assoc]⟩
theorem Un.kept (k : ∀ b u, h.get? b = some u → h'.get? b = some u) : Un fs ex H H h h' :=
  ⟨fun b ob q _ _ _ => k b ob q, fun b ob q _ _ _ => ⟨ob.slots, k b ob q⟩, fun _ _ _ n _ => n, fun b ob q _ => ⟨ob, k b ob q⟩, fun _ _ q => q, fun _ _ _ q => q, fun _ ps q => ⟨#[], by rw [q]; simp⟩⟩
theorem Un.refl : Un fs ex H H h h := Un.kept fun _ _ q => q
theorem Un.laid (k : ∀ b u, h.get? b = some u → h'.get? b = some u) (hp : h.objs.size ≤ a) (hn : H a = none) : Un fs ex H (upd H a o) h h' where
  keep := fun b u q _ _ _ => k b u q
  slot := fun b u q _ _ _ => ⟨u.slots, k b u q⟩
  free := fun b u q n _ => by rw [upd_ne (Nat.ne_of_lt (Nat.lt_of_lt_of_le (Heap.lt_size q) hp))]; exact n
  there := fun b u q _ => ⟨u, k b u q⟩
  tups := fun b xs q => by rw [upd_ne (ne_of_none q hn)]; exact q
  frzs := fun b u xs q => by rw [upd_ne (ne_of_none q hn)]; exact q
  tbls := fun b ps q => ⟨#[], by rw [upd_ne (ne_of_none q hn), q]; simp⟩
theorem Un.write (mu : Mut (H x)) (he : e = x ∨ H e = some (.own x)) (k : ∀ b u, b ≠ e → h.get? b = some u → h'.get? b = some u) (heo : ∃ u, h'.get? e = some u) : Un fs ex H (upd H x o) h h' := by
  have hx : ∀ b, H b = none → b ≠ x := fun b n z => by subst z; rw [n] at mu; exact mu
  have hb : ∀ b, H b = none → b ≠ e := fun b n z => by
    subst z
    rcases he with r | r
    · exact hx b n r
    · rw [n] at r; cases r
  have hm : ∀ b u, H b = some u → ¬ Mut (some u) → b ≠ x := fun b u q nm z => by subst z; rw [q] at mu; exact nm mu
  refine ⟨fun b u q n _ _ => k b u (hb b n) q, fun b u q n _ _ => ⟨u.slots, k b u (hb b n) q⟩, fun b u q n _ => by rw [upd_ne (hx b n)]; exact n, fun b u q _ => ?_,
    fun b xs q => by rw [upd_ne (hm b _ q fun z => z)]; exact q, fun b u xs q => by rw [upd_ne (hm b _ q fun z => z)]; exact q, fun b ps q => ⟨#[], by rw [upd_ne (hm b _ q fun z => z), q]; simp⟩⟩
  by_cases hbe : b = e
  · subst hbe; exact heo
  · exact ⟨u, k b u hbe q⟩
end

/-! ### the heap without what is tracked -/
def trk (h : Heap) (H : Hp) : List Addr := (List.range h.objs.size).filter fun a => (H a).isSome
def hidT (h : Heap) (H : Hp) : Heap := PySem.W.hideAll h (trk h H)
theorem hidT_size (h : Heap) (H : Hp) : (hidT h H).objs.size = h.objs.size := PySem.W.hideAll_size _ _
theorem hidT_get {h : Heap} {H : Hp} {b : Addr} {o : Obj} (e : h.get? b = some o) (n : H b = none) : (hidT h H).get? b = some o :=
  PySem.W.hideAll_get _ e fun hm => by
    have q : (H b).isSome = true := (List.mem_filter.mp hm).2
    rw [n] at q; simp at q
theorem of_hidT {h : Heap} {H : Hp} {b : Addr} {o : Obj} (e : (hidT h H).get? b = some o) : h.get? b = some o ∧ H b = none := by
  have e' : h.get? b = some o := PySem.W.of_hideAll (trk h H) e
  refine ⟨e', ?_⟩
  cases q : H b with
  | none => rfl
  | some x =>
    have hm : b ∈ trk h H := List.mem_filter.mpr ⟨List.mem_range.mpr (Heap.lt_size e'), by simp [q]⟩
    have z : (hidT h H).get? b = none := PySem.W.hideAll_none (trk h H) hm
    rw [z] at e; cases e

/-! ### OpenK's ledger, filled with every new object but one -/
end L2

namespace L2
open PySem PySem.Spec PyProof.Rows

/-- the module's facts, over the base: the heap at the law's entry without what is tracked there -/
structure Mod (K : PySem.W.Frag) (mg : Str → Option Value) (base : Heap) : Prop where
  kin : K.In base
  glob : base.Ns mainGlobals mg
  blt : ∃ mb, base.Ns builtinsNs mb ∧ ∀ x : Str, x ≠ "__name__" → mb x = bootBuiltins x
  nolimit : base.NoLimit

/-- the context: a def's body (or a comprehension's block) running. base: fixed through the whole law; s₀, H₀: the entry; outer: the frames whose slots others may change (a def's callers); stack: all frames that run;
   ex: iterators that were made ahead of the entry and are walked here (a comprehension's); fn: the names whose cells were made at the entry (a def: all; a comprehension's block: its own); calm: not within an except suite; pn: pins that every state bears; xe: what is wanted of an exception that leaves the code -/
structure Cx where
  prog : Program
  w : World
  K : PySem.W.Frag
  mg : Str → Option Value
  base : Heap
  A : Around
  N : List Str
  s₀ : Shared
  H₀ : Hp
  env : Env
  outer : List Env
  stack : List Env
  ex : List Addr
  fn : Str → Bool
  calm : Bool
  pn : List (Addr × Obj)
  xe : Value → Shared → Prop
/-- the callers' frames -/
def frs (l : List Env) : List Addr := l.filterMap (·.frame)
abbrev Cx.fs (X : Cx) : List Addr := frs X.outer

def Vis (sc : Scope) (x : Str) : Prop := sc.names.lookup x = some .local ∨ sc.names.lookup x = some .cell ∨ sc.names.lookup x = some .free
def Loc (sc : Scope) (x : Str) : Prop := sc.names.lookup x = some .local ∨ sc.names.lookup x = some .cell
def Look (env : Env) (h : Heap) (m : Str → Option Value) (x : Str) (u : Value) : Prop :=
  (env.kindOf x = some .local ∧ m x = some u) ∨ ((env.kindOf x = some .cell ∨ env.kindOf x = some .free) ∧ ∃ c, env.cells.lookup x = some c ∧ h.IsCell c (some u))

structure Cx.Ok (X : Cx) : Prop where
  mod : Mod X.K X.mg X.base
  kind : X.env.scope.kind = .function
  glob : X.env.globals = mainGlobals
  blt : X.env.builtins = builtinsNs
  above : X.s₀.heap.objs.size ≤ X.env.locals
  inj : ∀ x y c, X.env.cells.lookup x = some c → X.env.cells.lookup y = some c → x = y
  has : ∀ x, (X.env.kindOf x = some .cell ∨ X.env.kindOf x = some .free) → ∃ c, X.env.cells.lookup x = some c
  cab : ∀ x c, X.fn x = true → X.env.cells.lookup x = some c → X.s₀.heap.objs.size ≤ c
  hd : X.calm = true → X.A.handled = none
  frames : X.A.frames = some X.stack
  stk : X.stack = X.outer ∨ (X.stack = X.env :: X.outer ∧ X.env.frame = some X.env.locals)
  exf : ∀ b ∈ X.ex, b ≠ X.env.locals ∧ ∀ x c, X.env.cells.lookup x = some c → c ≠ b
  bs : ∀ b o, X.base.get? b = some o → X.s₀.heap.get? b = some o ∧ X.H₀ b = none
  bsz : X.base.objs.size ≤ X.s₀.heap.objs.size
  noex : ∀ b o, X.base.get? b = some o → b ∉ X.ex
  exfs : ∀ b ∈ X.ex, b ∉ X.fs
  funs : X.s₀.heap.FunFrames X.base X.outer
  frf : ∀ b ∈ X.fs, X.H₀ b = none

structure Inv (X : Cx) (pins : List (Addr × Obj)) (σ : List (Option V)) (H : Hp) (s : Shared) : Prop where
  ok : X.Ok
  os : s.os = X.s₀.os
  bare : AllBare s.gens
  base : Un X.fs X.ex X.H₀ H X.s₀.heap s.heap
  loc : ∃ m, s.heap.Ns X.env.locals m ∧ ∀ (i : Nat) (x : Str) (v : V), X.N[i]? = some x → σ[i]? = some (some v) → Vis X.env.scope x → ∃ u, RelV v u ∧ Look X.env s.heap m x u
  cell : ∀ x c, X.env.cells.lookup x = some c → ∃ v, s.heap.IsCell c v
  free : H X.env.locals = none
  freeC : ∀ x c, X.env.cells.lookup x = some c → H c = none
  pin : ∀ p ∈ X.pn ++ pins, s.heap.get? p.1 = some p.2 ∧ H p.1 = none ∧ p.1 ≠ X.env.locals ∧ p.1 ∉ X.fs ∧ ∀ v, p.2.data ≠ .cell v
  hok : HOk X.prog X.w H s.heap
  len : σ.length = X.N.length

section
variable {X : Cx} {pins : List (Addr × Obj)} {σ : List (Option V)} {H H' : Hp} {s : Shared} {h' : Heap}

theorem Cx.Ok.nofr (ok : X.Ok) {b : Addr} {o : Obj} (e : X.base.get? b = some o) : b ∉ X.fs := fun hb => by
  have := (ok.funs.mem hb).1
  rw [e] at this; cases this
theorem Inv.bs (I : Inv X pins σ H s) : ∀ b o, X.base.get? b = some o → s.heap.get? b = some o ∧ H b = none := fun b o e =>
  ⟨I.base.keep b o (I.ok.bs b o e).1 (I.ok.bs b o e).2 (I.ok.nofr e) (I.ok.noex b o e), I.base.free b o (I.ok.bs b o e).1 (I.ok.bs b o e).2 (I.ok.noex b o e)⟩
theorem Inv.bk (I : Inv X pins σ H s) : ∀ b o, X.base.get? b = some o → s.heap.get? b = some o := fun b o e => (I.bs b o e).1
theorem Inv.mod (I : Inv X pins σ H s) : Mod X.K X.mg X.base := I.ok.mod
theorem Inv.kIn (I : Inv X pins σ H s) : X.K.In s.heap := I.ok.mod.kin.keeps I.bk
theorem Inv.lt (I : Inv X pins σ H s) : X.env.locals < s.heap.objs.size := let ⟨_, hn, _⟩ := I.loc; hn.lt
theorem Inv.sz (I : Inv X pins σ H s) : X.s₀.heap.objs.size ≤ s.heap.objs.size := Nat.le_trans I.ok.above (Nat.le_of_lt I.lt)
theorem Inv.nofs (I : Inv X pins σ H s) {a : Addr} (h : s.heap.objs.size ≤ a) : a ∉ X.fs := fun hb => by
  obtain ⟨_, o, ho, _⟩ := I.ok.funs.mem hb
  exact absurd (Nat.lt_of_lt_of_le (Heap.lt_size ho) (Nat.le_trans I.sz h)) (Nat.lt_irrefl _)
theorem Inv.cne (I : Inv X pins σ H s) : ∀ x c, X.env.cells.lookup x = some c → c ≠ X.env.locals := fun x c e z => by
  obtain ⟨v, o, ho, hd⟩ := I.cell x c e
  obtain ⟨m, ⟨o', es, ep, ho', hd', _⟩, _⟩ := I.loc
  rw [z, ho'] at ho; cases ho; rw [hd'] at hd; cases hd
theorem Inv.funs (I : Inv X pins σ H s) : s.heap.FunFrames X.base X.outer := by
  have all : ∀ (l : List Env), (∀ b ∈ frs l, b ∈ X.fs) → X.s₀.heap.FunFrames X.base l → s.heap.FunFrames X.base l := by
    intro l
    induction l with
    | nil => intro _ _; trivial
    | cons env r ih =>
      intro hs hl
      obtain ⟨hk, ⟨L, o, hf, hn, ho, hd⟩, hr⟩ := hl
      have hL : L ∈ X.fs := hs L (by unfold frs; rw [List.filterMap_cons, hf]; exact List.mem_cons_self)
      obtain ⟨sl, e⟩ := I.base.slot L o ho (I.ok.frf L hL) hL fun z => I.ok.exfs L z hL
      exact ⟨hk, ⟨L, _, hf, hn, e, hd⟩, ih (fun b hb => hs b (by unfold frs; rw [List.filterMap_cons, hf]; exact List.mem_cons_of_mem _ hb)) hr⟩
  exact all X.outer (fun _ hb => hb) I.ok.funs

/-- the frames that run, for a call -/
theorem Inv.stack (I : Inv X pins σ H s) : s.heap.FunFrames X.base X.stack := by
  rcases I.ok.stk with e | ⟨e, hf⟩
  · rw [e]; exact I.funs
  · rw [e]
    obtain ⟨m, hn, _⟩ := I.loc
    refine .cons (by rw [I.ok.kind]; decide) hf hn ?_ I.funs
    exact Heap.get?_none_of_le (Nat.le_trans I.ok.bsz I.ok.above)
theorem Inv.stkSub (I : Inv X pins σ H s) : ∀ b ∈ frs X.stack, b ∈ X.env.locals :: X.fs := fun b hb => by
  rcases I.ok.stk with e | ⟨e, hf⟩
  · rw [e] at hb; exact List.mem_cons_of_mem _ hb
  · rw [e] at hb
    unfold frs at hb
    rw [List.filterMap_cons, hf] at hb
    exact hb
theorem Inv.stkFree (I : Inv X pins σ H s) : ∀ b ∈ frs X.stack, H b = none := fun b hb => by
  rcases List.mem_cons.mp (I.stkSub b hb) with e | hb
  · rw [e]; exact I.free
  · obtain ⟨_, o, ho, _⟩ := I.ok.funs.mem hb
    exact I.base.free b o ho (I.ok.frf b hb) fun z => I.ok.exfs b z hb

/-- THE STEP: the untracked objects but the frame and the records at ch are kept (the callers' frames up to slots), the frame's map is kept, the new abstract heap is held -/
theorem Inv.step {g' : Array GenState} {t' : Nat} {d' : Drawn} {ch : List Addr} (I : Inv X pins σ H s)
    (hch : ∀ b ∈ ch, (b ∈ X.ex ∨ X.s₀.heap.objs.size ≤ b) ∧ b ≠ X.env.locals ∧ (∀ x c, X.env.cells.lookup x = some c → c ≠ b) ∧ ∀ p ∈ X.pn ++ pins, p.1 ≠ b)
    (keep : ∀ b o, b ≠ X.env.locals → b ∉ X.fs → b ∉ ch → s.heap.get? b = some o → H b = none → h'.get? b = some o)
    (slot : ∀ b o, b ≠ X.env.locals → b ∈ X.fs → b ∉ ch → s.heap.get? b = some o → H b = none → ∃ sl, h'.get? b = some { o with slots := sl }) (free : ∀ b o, b ∉ ch → s.heap.get? b = some o → H b = none → H' b = none)
    (there : ∀ b o, b ∉ ch → s.heap.get? b = some o → ∃ o', h'.get? b = some o')
    (tups : ∀ b xs, H b = some (.tup xs) → H' b = some (.tup xs)) (frzs : ∀ b o u, H b = some (.frz o u) → H' b = some (.frz o u)) (tbls : ∀ b ps, H b = some (.tbl ps) → ∃ more, H' b = some (.tbl (ps ++ more)))
    (ns : ∀ m, s.heap.Ns X.env.locals m → h'.Ns X.env.locals m) (hok : HOk X.prog X.w H' h') (hg : AllBare g') :
    Inv X pins σ H' { s with heap := h', gens := g', drawn := d', toks := t' } := by
  have neL : ∀ b o, X.s₀.heap.get? b = some o → b ≠ X.env.locals := fun b o e => Nat.ne_of_lt (Nat.lt_of_lt_of_le (Heap.lt_size e) I.ok.above)
  have neC : ∀ b o, X.s₀.heap.get? b = some o → b ∉ X.ex → b ∉ ch := fun b o e hx hb => by
    rcases (hch b hb).1 with z | z
    · exact hx z
    · exact absurd (Nat.lt_of_lt_of_le (Heap.lt_size e) z) (Nat.lt_irrefl _)
  have cellK : ∀ x c, X.env.cells.lookup x = some c → ∀ v, s.heap.IsCell c v → h'.IsCell c v := fun x c e v ⟨o, ho, hd⟩ => by
    have nch : c ∉ ch := fun z => (hch c z).2.2.1 x c e rfl
    by_cases hc : c ∈ X.fs
    · obtain ⟨sl, q⟩ := slot c o (I.cne x c e) hc nch ho (I.freeC x c e)
      exact ⟨_, q, hd⟩
    · exact ⟨o, keep c o (I.cne x c e) hc nch ho (I.freeC x c e), hd⟩
  refine ⟨I.ok, I.os, hg, ⟨fun b o e n hb hx => ?_, fun b o e n hb hx => ?_, fun b o e n hx => ?_, fun b o e hx => ?_, fun b xs e => tups b xs (I.base.tups b xs e), fun b o xs e => frzs b o xs (I.base.frzs b o xs e), fun b ps e => ?_⟩, ?_, fun x c e => ?_, ?_, fun x c e => ?_, fun p hp => ?_, hok, I.len⟩
  · exact keep b o (neL b o e) hb (neC b o e hx) (I.base.keep b o e n hb hx) (I.base.free b o e n hx)
  · obtain ⟨sl, e1⟩ := I.base.slot b o e n hb hx
    obtain ⟨sl', e2⟩ := slot b _ (neL b o e) hb (neC b o e hx) e1 (I.base.free b o e n hx)
    exact ⟨sl', e2⟩
  · obtain ⟨o', e1⟩ := I.base.there b o e hx
    exact free b o' (neC b o e hx) e1 (I.base.free b o e n hx)
  · obtain ⟨o', e1⟩ := I.base.there b o e hx
    exact there b o' (neC b o e hx) e1
  · obtain ⟨m1, e1⟩ := I.base.tbls b ps e
    obtain ⟨m2, e2⟩ := tbls b _ e1
    exact ⟨m1 ++ m2, by rw [e2, Array.append_assoc]⟩
  · obtain ⟨m, hn, hl⟩ := I.loc
    refine ⟨m, ns m hn, fun i x v e1 e2 e3 => ?_⟩
    obtain ⟨u, r, l⟩ := hl i x v e1 e2 e3
    refine ⟨u, r, ?_⟩
    rcases l with l | ⟨k, c, e, z⟩
    · exact .inl l
    · exact .inr ⟨k, c, e, cellK x c e _ z⟩
  · obtain ⟨v, z⟩ := I.cell x c e
    exact ⟨v, cellK x c e v z⟩
  · obtain ⟨m, ⟨o, _, _, ho, _⟩, _⟩ := I.loc
    exact free _ o (fun z => (hch _ z).2.1 rfl) ho I.free
  · obtain ⟨v, o, ho, hd⟩ := I.cell x c e
    exact free c o (fun z => (hch c z).2.2.1 x c e rfl) ho (I.freeC x c e)
  · obtain ⟨e, n, ne, nf, d⟩ := I.pin p hp
    have nch : p.1 ∉ ch := fun z => (hch p.1 z).2.2.2 p hp rfl
    exact ⟨keep p.1 p.2 ne nf nch e n, free p.1 p.2 nch e n, ne, nf, d⟩
/-- .. where the frame's own object is kept too -/
theorem Inv.un {t' : Nat} (I : Inv X pins σ H s) (u : Un X.fs [] H H' s.heap h') (hok : HOk X.prog X.w H' h') : Inv X pins σ H' { s with heap := h', toks := t' } := by
  obtain ⟨m, ⟨o, es, ep, ho, r⟩, _⟩ := id I.loc
  obtain ⟨sl, hL⟩ := u.any ho I.free (by simp)
  exact I.step (g' := s.gens) (d' := s.drawn) (ch := []) (fun _ z => nomatch z) (fun b o _ hb _ e n => u.keep b o e n hb (by simp)) (fun b o _ hb _ e n => u.slot b o e n hb (by simp)) (fun b o _ e n => u.free b o e n (by simp)) (fun b o _ e => u.there b o e (by simp)) u.tups u.frzs u.tbls (fun m' hm => by
    obtain ⟨o', es', ep', ho', r'⟩ := hm
    rw [ho] at ho'; cases ho'
    exact ⟨_, es', ep', hL, r'⟩) hok I.bare
/-- behind a call (or a comprehension's block): the slots of this frame may have changed too, the records at ch may have turned -/
theorem Inv.call {g' : Array GenState} {t' : Nat} {d' : Drawn} {ch : List Addr} (I : Inv X pins σ H s) (u : Un (frs X.stack) ch H H' s.heap h') (hok : HOk X.prog X.w H' h') (hg : AllBare g')
    (hch : ∀ b ∈ ch, (b ∈ X.ex ∨ X.s₀.heap.objs.size ≤ b) ∧ b ≠ X.env.locals ∧ (∀ x c, X.env.cells.lookup x = some c → c ≠ b) ∧ ∀ p ∈ X.pn ++ pins, p.1 ≠ b) :
    Inv X pins σ H' { s with heap := h', gens := g', drawn := d', toks := t' } := by
  obtain ⟨m, ⟨o, es, ep, ho, r⟩, _⟩ := id I.loc
  obtain ⟨sl, hL⟩ := u.any ho I.free fun z => (hch _ z).2.1 rfl
  exact I.step (ch := ch) hch (fun b o hL hb hc e n => u.keep b o e n (fun z => (List.mem_cons.mp (I.stkSub b z)).elim hL hb) hc) (fun b o _ _ hc e n => u.any e n hc) (fun b o hc e n => u.free b o e n hc) (fun b o hc e => u.there b o e hc) u.tups u.frzs u.tbls (fun m' hm => by
    obtain ⟨o', es', ep', ho', r'⟩ := hm
    rw [ho] at ho'; cases ho'
    exact ⟨_, es', ep', hL, r'⟩) hok hg
/-- an untracked record of ours (an iterator) has turned -/
theorem Inv.turned {t' : Nat} {it : Addr} (I : Inv X pins σ H s) (k : ∀ b o, b ≠ it → s.heap.get? b = some o → h'.get? b = some o) (hn : H it = none) (hL : it ≠ X.env.locals)
    (h1 : it ∈ X.ex ∨ X.s₀.heap.objs.size ≤ it) (h2 : ∀ x c, X.env.cells.lookup x = some c → c ≠ it) (h3 : ∀ p ∈ X.pn ++ pins, p.1 ≠ it) : Inv X pins σ H { s with heap := h', toks := t' } := by
  have nit : ∀ b u, H b = some u → b ≠ it := fun b u e z => by rw [z, hn] at e; cases e
  refine I.step (g' := s.gens) (d' := s.drawn) (ch := [it]) (fun b hb => ?_) (fun b o _ _ hc e _ => k b o (fun z => hc (by simp [z])) e) (fun b o _ _ hc e _ => ⟨o.slots, k b o (fun z => hc (by simp [z])) e⟩) (fun _ _ _ _ n => n)
    (fun b o hc e => ⟨o, k b o (fun z => hc (by simp [z])) e⟩) (fun _ _ e => e) (fun _ _ _ e => e) (fun b ps e => ⟨#[], by rw [e]; simp⟩) (fun m hm => ?_) (fun b u e => ?_) I.bare
  · have e : b = it := by simpa using hb
    subst e
    exact ⟨h1, hL, h2, h3⟩
  · obtain ⟨o, es, ep, ho, r⟩ := hm
    exact ⟨o, es, ep, k _ o (Ne.symm hL) ho, r⟩
  · refine (I.hok b u e).stay (fun c v hc q => k c v ?_ q) (fun _ q => q) fun _ _ q => q
    rcases hc with z | z
    · rw [z]; exact nit b u e
    · exact nit c _ z
theorem Inv.tok (I : Inv X pins σ H s) (t : Nat) : Inv X pins σ H { s with toks := t } := I.un (h' := s.heap) (t' := t) Un.refl I.hok
/-- all objects kept -/
theorem Inv.kept {t' : Nat} (I : Inv X pins σ H s) (k : ∀ b u, s.heap.get? b = some u → h'.get? b = some u) : Inv X pins σ H { s with heap := h', toks := t' } := I.un (Un.kept k) (I.hok.kept k)
/-- a new object laid and tracked -/
theorem Inv.laid {a : Addr} {o : HO} {t' : Nat} (I : Inv X pins σ H s) (k : ∀ b u, s.heap.get? b = some u → h'.get? b = some u) (hp : s.heap.objs.size ≤ a) (new : ObjOk X.prog X.w (upd H a o) h' a o) :
    Inv X pins σ (upd H a o) { s with heap := h', toks := t' } := I.un (Un.laid k hp (I.hok.fresh hp)) (I.hok.laid k hp new)
/-- an object written -/
theorem Inv.write {x e : Addr} {o : HO} {t' : Nat} (I : Inv X pins σ H s) (mu : Mut (H x)) (he : e = x ∨ H e = some (.own x)) (k : ∀ b u, b ≠ e → s.heap.get? b = some u → h'.get? b = some u) (heo : ∃ u, h'.get? e = some u)
    (new : ObjOk X.prog X.w (upd H x o) h' x o) : Inv X pins σ (upd H x o) { s with heap := h', toks := t' } := I.un (Un.write mu he k heo) (I.hok.write mu he k heo new)
theorem Inv.pins_of {pins' : List (Addr × Obj)} (I : Inv X pins σ H s) (h : ∀ p ∈ pins', s.heap.get? p.1 = some p.2 ∧ H p.1 = none ∧ p.1 ≠ X.env.locals ∧ p.1 ∉ X.fs ∧ ∀ v, p.2.data ≠ .cell v) : Inv X pins' σ H s :=
  ⟨I.ok, I.os, I.bare, I.base, I.loc, I.cell, I.free, I.freeC, fun p hp => (List.mem_append.mp hp).elim (fun z => I.pin p (List.mem_append_left _ z)) (h p), I.hok, I.len⟩

theorem nodup_ix {N : List Str} (hN : N.Nodup) {i j : Nat} {x : Str} (a : N[i]? = some x) (b : N[j]? = some x) : i = j := by
  obtain ⟨h1, e1⟩ := List.getElem?_eq_some_iff.mp a
  obtain ⟨h2, e2⟩ := List.getElem?_eq_some_iff.mp b
  exact (List.getElem_inj hN).mp (e1.trans e2.symm)

/-- a name is stored; what changed -/
theorem store_ok2 {M : Model} {A : Around} {E : Value → Shared → Prop} {i : Nat} {x : Str} {v : V} {u : Value} {Q : Unit → Shared → Prop} (I : Inv X pins σ H s) (hN : X.N.Nodup) (hi : X.N[i]? = some x) (hx : Loc X.env.scope x) (r : RelV v u)
    (h : ∀ s', Inv X pins (σ.set i (some v)) H s' → (∃ a, Heap.SameBut a s.heap s'.heap ∧ (a = X.env.locals ∨ X.env.cells.lookup x = some a)) → Q () s') (hf : X.fn x = true ∨ X.env.scope.names.lookup x = some .local := by first | exact .inl rfl | exact .inr rfl | assumption) : wpAny M A (storeName X.env x u) Q E s := by
  obtain ⟨m, hn, hl⟩ := id I.loc
  have hcls : (X.env.scope.kind == .class || (X.env.scope.kind == .module && X.env.locals != X.env.globals)) = false := by rw [I.ok.kind]; rfl
  have hiσ : i < σ.length := by rw [I.len]; exact (List.getElem?_eq_some_iff.mp hi).1
  have cne := I.cne
  have tracked : ∀ {a : Addr} {h' : Heap}, (∃ o, s.heap.get? a = some o ∧ H a = none) → Heap.SameBut a s.heap h' → HOk X.prog X.w H h' := fun {a h'} ha hs b ob e => by
    obtain ⟨_, _, hfree⟩ := ha
    refine (I.hok b ob e).stay (fun c w' hc q => (hs.2 c ?_).trans q) (fun _ q => q) fun _ _ q => q
    rintro rfl
    rcases hc with rfl | hc
    · rw [hfree] at e; cases e
    · rw [hfree] at hc; cases hc
  rcases hx with hk | hk
  · refine wpAny_storeName_local hk hn (fun h' hn' hs => ?_) hcls
    obtain ⟨oL, _, _, hoL, _⟩ := id hn
    refine h _ ⟨I.ok, I.os, I.bare, ⟨fun b o e n hb hx => ?_, fun b o e n hb hx => ?_, I.base.free, fun b o e hx => ?_, I.base.tups, I.base.frzs, I.base.tbls⟩, ⟨_, hn', fun j y v' e1 e2 e3 => ?_⟩, fun y c e => ?_, I.free, I.freeC, fun p hp => ?_, tracked ⟨oL, hoL, I.free⟩ hs, by simpa using I.len⟩ ⟨_, hs, .inl rfl⟩
    · exact (hs.2 b (Nat.ne_of_lt (Nat.lt_of_lt_of_le (Heap.lt_size e) I.ok.above))).trans (I.base.keep b o e n hb hx)
    · obtain ⟨sl, e1⟩ := I.base.slot b o e n hb hx
      exact ⟨sl, (hs.2 b (Nat.ne_of_lt (Nat.lt_of_lt_of_le (Heap.lt_size e) I.ok.above))).trans e1⟩
    · obtain ⟨o', e1⟩ := I.base.there b o e hx
      exact ⟨o', (hs.2 b (Nat.ne_of_lt (Nat.lt_of_lt_of_le (Heap.lt_size e) I.ok.above))).trans e1⟩
    · by_cases hj : j = i
      · subst hj
        rw [hi] at e1; cases e1
        rw [List.getElem?_set_self hiσ] at e2
        cases e2
        exact ⟨u, r, .inl ⟨hk, by simp⟩⟩
      · rw [List.getElem?_set_ne (Ne.symm hj)] at e2
        obtain ⟨u', r', q⟩ := hl j y v' e1 e2 e3
        refine ⟨u', r', ?_⟩
        rcases q with ⟨k, e⟩ | ⟨k, c, e, z⟩
        · refine .inl ⟨k, ?_⟩
          have : y ≠ x := fun e => hj (nodup_ix hN e1 (e ▸ hi))
          simp [this, e]
        · exact .inr ⟨k, c, e, z.sameBut hs (cne y c e)⟩
    · obtain ⟨w', z⟩ := I.cell y c e
      exact ⟨w', z.sameBut hs (cne y c e)⟩
    · obtain ⟨e, n, ne, nf, d⟩ := I.pin p hp
      exact ⟨(hs.2 p.1 ne).trans e, n, ne, nf, d⟩
  · have hfn : X.fn x = true := by
      rcases hf with z | z
      · exact z
      · rw [z] at hk; cases hk
    obtain ⟨c, hc⟩ := I.ok.has x (.inl hk)
    obtain ⟨w', z⟩ := I.cell x c hc
    refine wpAny_storeName_cell I.ok.kind hk hc z (fun h' hc' hs => ?_)
    obtain ⟨oc, hoc, hocd⟩ := id z
    refine h { s with heap := h' } ⟨I.ok, I.os, I.bare, ⟨fun b o e n hb hx => ?_, fun b o e n hb hx => ?_, I.base.free, fun b o e hx => ?_, I.base.tups, I.base.frzs, I.base.tbls⟩, ⟨m, hn.sameBut hs (Ne.symm (cne x c hc)), fun j y v' e1 e2 e3 => ?_⟩, fun y c' e => ?_, I.free, I.freeC, fun p hp => ?_, tracked ⟨oc, hoc, I.freeC x c hc⟩ hs, by simpa using I.len⟩ ⟨c, hs, .inr hc⟩
    · exact (hs.2 b (Nat.ne_of_lt (Nat.lt_of_lt_of_le (Heap.lt_size e) (I.ok.cab x c hfn hc)))).trans (I.base.keep b o e n hb hx)
    · obtain ⟨sl, e1⟩ := I.base.slot b o e n hb hx
      exact ⟨sl, (hs.2 b (Nat.ne_of_lt (Nat.lt_of_lt_of_le (Heap.lt_size e) (I.ok.cab x c hfn hc)))).trans e1⟩
    · obtain ⟨o', e1⟩ := I.base.there b o e hx
      exact ⟨o', (hs.2 b (Nat.ne_of_lt (Nat.lt_of_lt_of_le (Heap.lt_size e) (I.ok.cab x c hfn hc)))).trans e1⟩
    · by_cases hj : j = i
      · subst hj
        rw [hi] at e1; cases e1
        rw [List.getElem?_set_self hiσ] at e2
        cases e2
        exact ⟨u, r, .inr ⟨.inl hk, c, hc, hc'⟩⟩
      · rw [List.getElem?_set_ne (Ne.symm hj)] at e2
        obtain ⟨u', r', q⟩ := hl j y v' e1 e2 e3
        refine ⟨u', r', ?_⟩
        rcases q with q | ⟨k, c', e, z'⟩
        · exact .inl q
        · refine .inr ⟨k, c', e, z'.sameBut hs ?_⟩
          rintro rfl
          exact hj (nodup_ix hN e1 (I.ok.inj _ _ _ e hc ▸ hi))
    · by_cases hcc : c' = c
      · subst hcc; exact ⟨_, hc'⟩
      · obtain ⟨w2, z2⟩ := I.cell y c' e
        exact ⟨w2, z2.sameBut hs hcc⟩
    · obtain ⟨e, n, ne, nf, d⟩ := I.pin p hp
      refine ⟨(hs.2 p.1 ?_).trans e, n, ne, nf, d⟩
      intro q
      rw [q, hoc] at e
      have q' : oc = p.2 := Option.some.inj e
      exact d w' (by rw [← q']; exact hocd)
theorem store_ok {M : Model} {A : Around} {E : Value → Shared → Prop} {i : Nat} {x : Str} {v : V} {u : Value} {Q : Unit → Shared → Prop} (I : Inv X pins σ H s) (hN : X.N.Nodup) (hi : X.N[i]? = some x) (hx : Loc X.env.scope x) (r : RelV v u)
    (h : ∀ s', Inv X pins (σ.set i (some v)) H s' → Q () s') (hf : X.fn x = true ∨ X.env.scope.names.lookup x = some .local := by first | exact .inl rfl | exact .inr rfl | assumption) : wpAny M A (storeName X.env x u) Q E s :=
  store_ok2 I hN hi hx r (fun s' I' _ => h s' I') hf
/-- behind a call or a block, the state as it is -/
theorem Inv.call' {s' : Shared} {ch : List Addr} (I : Inv X pins σ H s) (ho : s'.os = s.os) (u : Un (frs X.stack) ch H H' s.heap s'.heap) (hok : HOk X.prog X.w H' s'.heap) (hg : AllBare s'.gens)
    (hch : ∀ b ∈ ch, (b ∈ X.ex ∨ X.s₀.heap.objs.size ≤ b) ∧ b ≠ X.env.locals ∧ (∀ x c, X.env.cells.lookup x = some c → c ≠ b) ∧ ∀ p ∈ X.pn ++ pins, p.1 ≠ b) : Inv X pins σ H' s' := by
  obtain ⟨h', g', d', t', o'⟩ := s'
  have e : o' = s.os := ho
  subst e
  exact I.call (g' := g') (t' := t') (d' := d') u hok hg hch
end

/-! ### the judgements -/
/-- an exception: its class, its own dict's address (where it has one), the abstract heap behind it -/
abbrev XK := Value → Option Addr → Hp → Prop
abbrev St := List (Option V)
abbrev VK := V → Hp → Prop
/-- an expression's reading; a test's; an argument list's -/
abbrev TE := St → Hp → VK → Prop
abbrev TT := St → Hp → (Bool → Hp → Prop) → Prop
abbrev TA := St → Hp → (List V → Hp → Prop) → Prop
/-- what is wanted behind a statement -/
structure Ends where
  nx : St → Hp → Prop
  rt : VK
  bk : St → Hp → Prop := fun _ _ => False
  ct : St → Hp → Prop := fun _ _ => False
abbrev TS := Ends → St → Hp → Prop

def EP (X : Cx) (pins : List (Addr × Obj)) (σ : St) (Q : VK) (u : Value) (s' : Shared) : Prop := ∃ v H', Inv X pins σ H' s' ∧ RelV v u ∧ Q v H'
def TP (X : Cx) (pins : List (Addr × Obj)) (σ : St) (Q : Bool → Hp → Prop) (b : Bool) (s' : Shared) : Prop := ∃ H', Inv X pins σ H' s' ∧ Q b H'
def AP (X : Cx) (pins : List (Addr × Obj)) (σ : St) (Q : List V → Hp → Prop) (us : List Value) (s' : Shared) : Prop := ∃ vs H', Inv X pins σ H' s' ∧ Vals vs us ∧ Q vs H'
def SP (X : Cx) (pins : List (Addr × Obj)) (D : Ends) (f : Flow) (s' : Shared) : Prop :=
  match f with
  | .next => ∃ σ' H', Inv X pins σ' H' s' ∧ D.nx σ' H'
  | .brk => ∃ σ' H', Inv X pins σ' H' s' ∧ D.bk σ' H'
  | .cont => ∃ σ' H', Inv X pins σ' H' s' ∧ D.ct σ' H'
  | .ret u => ∃ v σ' H', Inv X pins σ' H' s' ∧ RelV v u ∧ D.rt v H'

def PE (X : Cx) (e : Expr) (t : TE) : Prop :=
  ∀ (pins : List (Addr × Obj)) (s : Shared) (σ : St) (H : Hp) (Q : VK), Inv X pins σ H s → t σ H Q → wpAny (model X.prog X.w) X.A (eval e X.env) (EP X pins σ Q) X.xe s
def PT (X : Cx) (e : Expr) (t : TT) : Prop :=
  ∀ (pins : List (Addr × Obj)) (s : Shared) (σ : St) (H : Hp) (Q : Bool → Hp → Prop), Inv X pins σ H s → t σ H Q → wpAny (model X.prog X.w) X.A (isTrue e X.env (eval e X.env)) (TP X pins σ Q) X.xe s
/-- a test whatever its 'whole' is (and, or) -/
def PW (X : Cx) (e : Expr) (t : TT) : Prop :=
  ∀ (whole : Sem Value) (pins : List (Addr × Obj)) (s : Shared) (σ : St) (H : Hp) (Q : Bool → Hp → Prop), Inv X pins σ H s → t σ H Q → wpAny (model X.prog X.w) X.A (isTrue e X.env whole) (TP X pins σ Q) X.xe s
theorem PW.pt {X : Cx} {e : Expr} {t : TT} (h : PW X e t) : PT X e t := h _
/-- an argument list (no star), from the left -/
def PA (X : Cx) (es : List Expr) (t : TA) : Prop :=
  ∀ (pos : Pos) (pins : List (Addr × Obj)) (s : Shared) (σ : St) (H : Hp) (Q : List V → Hp → Prop), Inv X pins σ H s → t σ H Q → wpAny (model X.prog X.w) X.A (spliced (backTo pos (starEach es X.env))) (AP X pins σ Q) X.xe s
def PS (X : Cx) (st : Stmt) (t : TS) : Prop :=
  ∀ (pins : List (Addr × Obj)) (s : Shared) (σ : St) (H : Hp) (D : Ends), Inv X pins σ H s → t D σ H → wpAny (model X.prog X.w) X.A (exec st X.env) (SP X pins D) X.xe s
def PSs (X : Cx) (st : List Stmt) (t : TS) : Prop :=
  ∀ (pins : List (Addr × Obj)) (s : Shared) (σ : St) (H : Hp) (D : Ends), Inv X pins σ H s → t D σ H → wpAny (model X.prog X.w) X.A (execs st X.env) (SP X pins D) X.xe s
/-- weaken the end -/
theorem thn {α : Type} {t : Sem α} {Q Q' : α → Shared → Prop} {M : Model} {A : Around} {E : Value → Shared → Prop} {s : Shared} (h : wpAny M A t Q E s) (hQ : ∀ a s, Q a s → Q' a s) : wpAny M A t Q' E s := wpAny_mono h hQ fun _ _ x => x
end L2

namespace L2
open PySem PySem.Spec PyProof.Rows
section
variable {X : Cx}

/-- two expressions in a row -/
theorem bin {a b : Expr} {ta tb : TE} (ha : PE X a ta) (hb : PE X b tb) {pins : List (Addr × Obj)} {s : Shared} {σ : St} {H : Hp} {R : V → V → Hp → Prop} (I : Inv X pins σ H s) (h : ta σ H fun x H1 => tb σ H1 fun y H2 => R x y H2)
    {α : Type} {Q : α → Shared → Prop} {f : Value → Value → Sem α}
    (hf : ∀ v u s2 x y H2, Inv X pins σ H2 s2 → RelV x v → RelV y u → R x y H2 → wpAny (model X.prog X.w) X.A (f v u) Q X.xe s2) :
    wpAny (model X.prog X.w) X.A (eval a X.env) (fun v s₁ => wpAny (model X.prog X.w) X.A (eval b X.env) (fun u s₂ => wpAny (model X.prog X.w) X.A (f v u) Q X.xe s₂) X.xe s₁) X.xe s := by
  refine thn (ha pins s σ H _ I h) fun v s1 ⟨x, H1, I1, r1, q1⟩ => ?_
  refine thn (hb pins s1 σ H1 _ I1 q1) fun u s2 ⟨y, H2, I2, r2, q2⟩ => ?_
  exact hf v u s2 x y H2 I2 r1 r2 q2

/-! ### names and constants -/
def tVar (i : Nat) : TE := fun σ H Q => ∃ v, σ[i]? = some (some v) ∧ Q v H
def tC (v : V) : TE := fun _ H Q => Q v H
theorem pe_var {i : Nat} {x : Str} {pos : Pos} (hN : X.N[i]? = some x) (hv : Vis X.env.scope x) (hd : (x == ("__debug__" : Str)) = false := by decide) (hcd : (x == ("__classdict__" : Str)) = false := by decide) : PE X (.Name x pos) (tVar i) := by
  intro pins s σ H Q I h
  obtain ⟨v, e, h⟩ := h
  obtain ⟨m, hn, hl⟩ := I.loc
  obtain ⟨u, r, l⟩ := hl i x v hN e hv
  have fin : EP X pins σ Q u s := ⟨v, H, I, r, h⟩
  rcases l with ⟨hk, hm⟩ | ⟨hk, c, hc, hcell⟩
  · exact wpAny_Name (wpAny_loadName_local I.ok.kind hk hn hm fin) hd
  · rcases hk with hk | hk
    · exact wpAny_Name (wpAny_loadName_cell I.ok.kind hk hc hcell fin) hd
    · exact wpAny_Name (wpAny_loadName_free I.ok.kind hk hc hcell fin hcd) hd
theorem pe_int {i j pos} : PE X (.Constant (.int i) j pos) (tC (.int i)) := fun _ _ _ H _ I h => wpAny_Constant_int ⟨.int i, H, I.tok _, ⟨_, rfl⟩, h⟩
theorem pe_bl {b j pos} : PE X (.Constant (.bool b) j pos) (tC (.bl b)) := fun _ _ _ H _ I h => Constant_bool ⟨.bl b, H, I, rfl, h⟩
theorem pe_non {j pos} : PE X (.Constant .none j pos) (tC .non) := fun _ _ _ H _ I h => Constant_none ⟨.non, H, I, rfl, h⟩
theorem pe_str {x j pos} : PE X (.Constant (.str x) j pos) (tC (.str x)) := fun _ _ _ H _ I h => Calls.Constant_str ⟨.str x, H, I.tok _, ⟨_, rfl⟩, h⟩

/-- a global name of the def -/
def Gl (X : Cx) (x : Str) : Prop := X.env.kindOf x = some .globalImplicit
theorem ld_glob {E : Value → Shared → Prop} {pins : List (Addr × Obj)} {s : Shared} {σ : St} {H : Hp} {x : Str} {u : Value} {pos : Pos} {Q : Value → Shared → Prop} (I : Inv X pins σ H s) (hg : Gl X x) (hm : X.mg x = some u) (h : Q u s)
    (hd : (x == ("__debug__" : Str)) = false := by decide) : wpAny (model X.prog X.w) X.A (eval (.Name x pos) X.env) Q E s :=
  Calls.Name_function_global I.ok.kind hg (Calls.loadGlobal_global (by rw [I.ok.glob]; exact I.mod.glob.keeps I.bk) hm h) hd
theorem ld_blt {E : Value → Shared → Prop} {pins : List (Addr × Obj)} {s : Shared} {σ : St} {H : Hp} {x : Str} {u : Value} {pos : Pos} {Q : Value → Shared → Prop} (I : Inv X pins σ H s) (hg : Gl X x) (hm : X.mg x = none) (hv : bootBuiltins x = some u) (h : Q u s)
    (hn : x ≠ "__name__" := by decide) (hd : (x == ("__debug__" : Str)) = false := by decide) : wpAny (model X.prog X.w) X.A (eval (.Name x pos) X.env) Q E s := by
  obtain ⟨mb, h1, h2⟩ := I.mod.blt
  exact Calls.Name_function_global I.ok.kind hg (Calls.loadGlobal_builtin (by rw [I.ok.glob]; exact I.mod.glob.keeps I.bk) hm (by rw [I.ok.blt]; exact h1.keeps I.bk) ((h2 x hn).trans hv) h) hd
/-- a module's constant, a class, a function, as a value -/
theorem pe_glob {x : Str} {v : V} {u : Value} {pos : Pos} (hg : Gl X x) (hm : X.mg x = some u) (r : RelV v u) (hd : (x == ("__debug__" : Str)) = false := by decide) : PE X (.Name x pos) (tC v) :=
  fun _ _ _ H _ I h => ld_glob I hg hm ⟨v, H, I, r, h⟩ hd
theorem pe_bltn {x : Str} {v : V} {u : Value} {pos : Pos} (hg : Gl X x) (hm : X.mg x = none) (hv : bootBuiltins x = some u) (r : RelV v u) (hn : x ≠ "__name__" := by decide) (hd : (x == ("__debug__" : Str)) = false := by decide) : PE X (.Name x pos) (tC v) :=
  fun _ _ _ H _ I h => ld_blt I hg hm hv ⟨v, H, I, r, h⟩ hn hd

/-! ### arithmetic -/
/-- two ints -/
def t2I (ta tb : TE) (k : Int → Int → Hp → Prop) : St → Hp → Prop := fun σ H => ta σ H fun x H1 => tb σ H1 fun y H2 => ∃ i j, x = .int i ∧ y = .int j ∧ k i j H2
variable {a b : Expr} {ta tb : TE} {pos : Pos}
/-! ### comparisons -/
def tCmp (p : Int → Int → Bool) (ta tb : TE) : TE := fun σ H Q => t2I ta tb (fun i j H2 => Q (.bl (p i j)) H2) σ H
abbrev tLt : TE → TE → TE := tCmp fun i j => decide (i < j)
abbrev tLe : TE → TE → TE := tCmp fun i j => decide (i ≤ j)
abbrev tGt : TE → TE → TE := tCmp fun i j => decide (j < i)
abbrev tGe : TE → TE → TE := tCmp fun i j => decide (j ≤ i)
abbrev tEqI : TE → TE → TE := tCmp fun i j => decide (i = j)
abbrev tNeI : TE → TE → TE := tCmp fun i j => !decide (i = j)
/-! ### and, or, not -/
variable {tA tB' : TT} {rest : List Expr}
def tNot (t : TT) : TT := fun σ H Q => t σ H fun c H1 => Q (!c) H1
theorem pw_and1 (ha : PT X a tA) : PW X (.BoolOp .And [a] pos) tA := by
  intro wh pins s σ H Q I h
  refine isTrue_and (thn (ha pins s σ H Q I h) fun c s1 e => ?_)
  cases c with
  | true => exact isTrue_and_nil e
  | false => exact e
theorem pw_or1 (ha : PT X a tA) : PW X (.BoolOp .Or [a] pos) tA := by
  intro wh pins s σ H Q I h
  refine isTrue_or (thn (ha pins s σ H Q I h) fun c s1 e => ?_)
  cases c with
  | false => exact isTrue_or_nil e
  | true => exact e
theorem pt_not (ha : PT X a tA) : PT X (.UnaryOp .Not a pos) (tNot tA) := by
  intro pins s σ H Q I h
  exact isTrue_not (ha pins s σ H (fun c H1 => Q (!c) H1) I h)
theorem pe_one {op} {t : TE} (h : PE X a t) : PE X (.BoolOp op [a] pos) t := fun pins s σ H Q I hw => BoolOp_one (h pins s σ H Q I hw)
end
end L2

namespace L2
open PySem PySem.Spec PyProof.Rows

/-! ### a list, a tuple that is read: tracked, frozen, or an object of the module -/
def SqL (K : PySem.W.Frag) (H : Hp) (a : Addr) (xs : List V) : Prop :=
  Rd H a (.lst xs) ∨
    ∃ (o : Obj) (its : Array Value) (n : Nat), K.lookup a = some o ∧ o.cls = .type "list" ∧ o.dict = none ∧ o.data = .seq its n ∧ its.size ≤ sizeLine ∧ Vals xs its.toList
def SqT (K : PySem.W.Frag) (H : Hp) (a : Addr) (xs : List V) : Prop :=
  Rd H a (.tup xs) ∨
    ∃ (o : Obj) (its : Array Value) (n : Nat), K.lookup a = some o ∧ o.cls = .type "tuple" ∧ o.data = .seq its n ∧ its.size ≤ sizeLine ∧ Vals xs its.toList
def absV : Value → Option V
  | .none => some .non
  | .bool b => some (.bl b)
  | .int i _ => some (.int i)
  | .str x _ => some (.str x)
  | .bytes b _ => some (.byt b)
  | .float b _ => some (.flt b)
  | .ref a => some (.ref a)
  | .type n => some (.ty n)
  | _ => none
theorem RelV.abs {x : V} {u : Value} (r : RelV x u) : absV u = some x := by
  cases x with
  | non => cases r; rfl
  | bl _ => cases r; rfl
  | int _ => obtain ⟨t, rfl⟩ := r; rfl
  | str _ => obtain ⟨t, rfl⟩ := r; rfl
  | byt _ => obtain ⟨t, rfl⟩ := r; rfl
  | flt _ => obtain ⟨t, rfl⟩ := r; rfl
  | ref _ => cases r; rfl
  | ty _ => cases r; rfl
theorem RelV.inj {x y : V} {u : Value} (r : RelV x u) (q : RelV y u) : x = y := Option.some.inj (r.abs.symm.trans q.abs)
theorem Vals.inj : ∀ {xs ys : List V} {us : List Value}, Vals xs us → Vals ys us → xs = ys
  | _, _, _, .nil, .nil => rfl
  | _, _, _, .cons r t, .cons r' t' => by rw [r.inj r', Vals.inj t t']
section
variable {X : Cx} {pins : List (Addr × Obj)} {σ : St} {H : Hp} {s : Shared} {a : Addr} {xs ys : List V}
theorem SqL.of {K : PySem.W.Frag} (h : H a = some (.lst xs)) : SqL K H a xs := .inl (.inl h)
theorem SqT.of {K : PySem.W.Frag} (h : H a = some (.tup xs)) : SqT K H a xs := .inl (.inl h)
theorem Inv.list (I : Inv X pins σ H s) (h : SqL X.K H a xs) : ∃ its : List Value, Vals xs its ∧ PlainL s.heap a its.toArray ∧ xs.length ≤ sizeLine := by
  rcases h with h | ⟨o, its, n, hk, hc, hd, hs, hz, r⟩
  · obtain ⟨z, its, n, r, e⟩ := h.ok I.hok
    exact ⟨its, r, ⟨_, n, e, rfl, rfl, rfl⟩, z⟩
  · refine ⟨its.toList, r, ⟨o, n, I.kIn a o hk, hc, hd, by simpa using hs⟩, ?_⟩
    have e := r.length
    simp only [Array.length_toList] at e
    omega
theorem Inv.tuple (I : Inv X pins σ H s) (h : SqT X.K H a xs) : ∃ its : List Value, Vals xs its ∧ IsTup s.heap a its.toArray ∧ xs.length ≤ sizeLine := by
  rcases h with h | ⟨o, its, n, hk, hc, hs, hz, r⟩
  · obtain ⟨z, its, r, p⟩ := h.ok I.hok
    exact ⟨its, r, p, z⟩
  · refine ⟨its.toList, r, ⟨o, I.kIn a o hk, hc, n, by simpa using hs⟩, ?_⟩
    have e := r.length
    simp only [Array.length_toList] at e
    omega
theorem Inv.list_inj (I : Inv X pins σ H s) (h : SqL X.K H a xs) (h' : SqL X.K H a ys) : xs = ys := by
  obtain ⟨its, r, ⟨o, n, e, _, _, d⟩, _⟩ := I.list h
  obtain ⟨its', r', ⟨o', n', e', _, _, d'⟩, _⟩ := I.list h'
  rw [e] at e'; cases e'
  rw [d] at d'
  injection d' with d1 _
  have : its = its' := by simpa using congrArg Array.toList d1
  subst this
  exact r.inj r'
end

/-! ### another wish about exceptions -/
abbrev Cx.wish (X : Cx) (E : Value → Shared → Prop) : Cx := { X with xe := E }
/-- no exception leaves -/
abbrev Cx.nox (X : Cx) : Cx := X.wish fun _ _ => False
theorem Cx.Ok.wish {X : Cx} (ok : X.Ok) (E : Value → Shared → Prop) : (X.wish E).Ok :=
  ⟨ok.mod, ok.kind, ok.glob, ok.blt, ok.above, ok.inj, ok.has, ok.cab, ok.hd, ok.frames, ok.stk, ok.exf, ok.bs, ok.bsz, ok.noex, ok.exfs, ok.funs, ok.frf⟩
theorem Cx.Ok.unwish {X : Cx} {E : Value → Shared → Prop} (ok : (X.wish E).Ok) : X.Ok :=
  ⟨ok.mod, ok.kind, ok.glob, ok.blt, ok.above, ok.inj, ok.has, ok.cab, ok.hd, ok.frames, ok.stk, ok.exf, ok.bs, ok.bsz, ok.noex, ok.exfs, ok.funs, ok.frf⟩
section
variable {X : Cx} {pins : List (Addr × Obj)} {σ : St} {H : Hp} {s : Shared} {E : Value → Shared → Prop}
theorem Inv.wish (I : Inv X pins σ H s) (E : Value → Shared → Prop) : Inv (X.wish E) pins σ H s := ⟨I.ok.wish E, I.os, I.bare, I.base, I.loc, I.cell, I.free, I.freeC, I.pin, I.hok, I.len⟩
theorem Inv.unwish (I : Inv (X.wish E) pins σ H s) : Inv X pins σ H s := ⟨I.ok.unwish, I.os, I.bare, I.base, I.loc, I.cell, I.free, I.freeC, I.pin, I.hok, I.len⟩
theorem SP.unwish {D : Ends} {f : Flow} {s' : Shared} (h : SP (X.wish E) pins D f s') : SP X pins D f s' := by
  cases f with
  | next => obtain ⟨σ', H', I, q⟩ := h; exact ⟨σ', H', I.unwish, q⟩
  | brk => obtain ⟨σ', H', I, q⟩ := h; exact ⟨σ', H', I.unwish, q⟩
  | cont => obtain ⟨σ', H', I, q⟩ := h; exact ⟨σ', H', I.unwish, q⟩
  | ret u => obtain ⟨v, σ', H', I, r, q⟩ := h; exact ⟨v, σ', H', I.unwish, r, q⟩
theorem PSs.nox {st : List Stmt} {t : TS} (h : PSs X.nox st t) : PSs X st t := fun pins s σ H D I hw =>
  wpAny_mono (h pins s σ H D (I.wish _) hw) (fun _ _ q => q.unwish) fun _ _ z => False.elim z
end

/-! ### blocks and small statements -/
section
variable {X : Cx} {st : Stmt} {rest : List Stmt} {t u : TS} {e : Expr} {te : TE} {pos : Pos}
def tNext : TS := fun D σ H => D.nx σ H
def tSeq (t u : TS) : TS := fun D σ H => t { D with nx := u D } σ H
theorem pss_nil : PSs X [] tNext := fun _ _ σ H _ I h => wpAny_execs_nil ⟨σ, H, I, h⟩
theorem pss_cons (h1 : PS X st t) (h2 : PSs X rest u) : PSs X (st :: rest) (tSeq t u) := by
  intro pins s σ H D I h
  refine wpAny_execs_cons (thn (h1 pins s σ H { D with nx := u D } I h) fun f s1 q => ?_)
  cases f with
  | next =>
    obtain ⟨σ', H', I', q⟩ := q
    exact h2 pins s1 σ' H' D I' q
  | ret v => exact q
  | brk => exact q
  | cont => exact q
theorem pss_one (h1 : PS X st t) : PSs X [st] t := by
  intro pins s σ H D I h
  refine wpAny_execs_cons (thn (h1 pins s σ H D I h) fun f s1 q => ?_)
  cases f with
  | next => exact wpAny_execs_nil q
  | ret v => exact q
  | brk => exact q
  | cont => exact q
/-- in a def's body nothing is shown -/
theorem Inv.quiet {pins : List (Addr × Obj)} {σ : St} {H : Hp} {s : Shared} (I : Inv X pins σ H s) : interactive X.env = false := by simp [interactive, I.ok.kind]
/-- an expression whose value is dropped -/
def tDrop (te : TE) : TS := fun D σ H => te σ H fun _ H1 => D.nx σ H1
theorem ps_expr (he : PE X e te) (hs : swapsWith e none pos.line X.env = pure false := by rfl) : PS X (.Expr e pos) (tDrop te) := by
  intro pins s σ H D I h
  exact wpAny_Expr_any (thn (he pins s σ H _ I h) fun v s1 ⟨x, H1, I1, r1, q1⟩ => ⟨σ, H1, I1, q1⟩) I.quiet hs
def tRet (te : TE) : TS := fun D σ H => te σ H D.rt
theorem ps_ret (he : PE X e te) : PS X (.Return (some e) pos) (tRet te) := by
  intro pins s σ H D I h
  exact wpAny_Return_some (thn (he pins s σ H _ I h) fun v s1 ⟨x, H1, I1, r1, q1⟩ => ⟨x, σ, H1, I1, r1, q1⟩)
end

/-! ### targets -/
abbrev TG := V → St → Hp → (St → Hp → Prop) → Prop
abbrev TGs := List V → St → Hp → (St → Hp → Prop) → Prop
def PG (X : Cx) (target : Expr) (t : TG) : Prop :=
  ∀ (pins : List (Addr × Obj)) (s : Shared) (σ : St) (H : Hp) (v : V) (u : Value) (Q : St → Hp → Prop), Inv X pins σ H s → RelV v u → t v σ H Q →
    wpAny (model X.prog X.w) X.A (assign target X.env u) (fun _ s' => ∃ σ' H', Inv X pins σ' H' s' ∧ Q σ' H') X.xe s
/-- several targets, one after another -/
def PGs (X : Cx) (ts : List Expr) (t : TGs) : Prop :=
  ∀ (pins : List (Addr × Obj)) (s : Shared) (σ : St) (H : Hp) (vs : List V) (us : List Value) (Q : St → Hp → Prop), Inv X pins σ H s → Vals vs us → t vs σ H Q →
    wpAny (model X.prog X.w) X.A (assignInOrder ((assignEach ts X.env).map (·.2)) us) (fun _ s' => ∃ σ' H', Inv X pins σ' H' s' ∧ Q σ' H') X.xe s
/-- o[i] = v, by values -/
abbrev TSet := V → V → V → Hp → (Hp → Prop) → Prop
def PSet (X : Cx) (t : TSet) : Prop :=
  ∀ (pins : List (Addr × Obj)) (s : Shared) (σ : St) (H : Hp) (o i v : V) (ov iv u : Value) (Q : Hp → Prop), Inv X pins σ H s → RelV o ov → RelV i iv → RelV v u → t o i v H Q →
    wpAny (model X.prog X.w) X.A (setItem ov iv u) (fun _ s' => ∃ H', Inv X pins σ H' s' ∧ Q H') X.xe s
/-- a op= b, by values -/
abbrev TIp := V → V → Hp → VK → Prop
def PIp (X : Cx) (op : Operator) (t : TIp) : Prop :=
  ∀ (pins : List (Addr × Obj)) (s : Shared) (σ : St) (H : Hp) (x y : V) (v u : Value) (Q : VK), Inv X pins σ H s → RelV x v → RelV y u → t x y H Q →
    wpAny (model X.prog X.w) X.A (inplaceOp op v u) (EP X pins σ Q) X.xe s
section
variable {X : Cx} {pos : Pos}
def gName (i : Nat) : TG := fun v σ H Q => Q (σ.set i (some v)) H
theorem pg_name {i : Nat} {x : Str} (hN : X.N.Nodup) (hi : X.N[i]? = some x) (hx : Loc X.env.scope x) (hf : X.fn x = true ∨ X.env.scope.names.lookup x = some .local := by first | exact .inl rfl | exact .inr rfl | assumption) : PG X (.Name x pos) (gName i) := by
  intro pins s σ H v u Q I r h
  exact wpAny_assign_Name (store_ok I hN hi hx r (fun s' I' => ⟨_, H, I', h⟩) hf)
def gNil : TGs := fun vs σ H Q => vs = [] ∧ Q σ H
def gCons (t : TG) (u : TGs) : TGs := fun vs σ H Q => ∃ v r, vs = v :: r ∧ t v σ H fun σ' H' => u r σ' H' Q
theorem pgs_nil : PGs X [] gNil := by
  intro pins s σ H vs us Q I r h
  obtain ⟨e, h⟩ := h
  subst e
  cases r
  exact assignInOrder_nil ⟨σ, H, I, h⟩
theorem pgs_cons {e : Expr} {es : List Expr} {t : TG} {u : TGs} (h1 : PG X e t) (h2 : PGs X es u)
    (hs : (assignEach (e :: es) X.env).map (·.2) = assign e X.env :: (assignEach es X.env).map (·.2) := by rfl) : PGs X (e :: es) (gCons t u) := by
  intro pins s σ H vs us Q I r h
  obtain ⟨v, vr, e1, h⟩ := h
  subst e1
  cases r with
  | cons r rr =>
    rw [hs]
    refine assignInOrder_cons (thn (h1 pins s σ H _ _ _ I r h) fun _ s1 ⟨σ1, H1, I1, q1⟩ => ?_)
    exact h2 pins s1 σ1 H1 _ _ Q I1 rr q1
/-- (a, b, ..) = a tuple of that length -/
def gTup (K : PySem.W.Frag) (n : Nat) (t : TGs) : TG := fun v σ H Q => ∃ a xs, v = .ref a ∧ SqT K H a xs ∧ xs.length = n ∧ t xs σ H Q
theorem pg_tup {es : List Expr} {k : Nat} {t : TGs} {n : Nat} (hc : X.calm = true) (h : PGs X es t)
    (hn : (assignEach es X.env).length = n := by rfl) (hst : (assignEach es X.env).findIdx? (·.1) = none := by rfl) : PG X (.Tuple es k pos) (gTup X.K n t) := by
  intro pins s σ H v u Q I r hw
  obtain ⟨a, xs, e1, hq, hl, hw⟩ := hw
  subst e1
  cases r
  obtain ⟨its, rv, ht, hz⟩ := I.tuple hq
  refine assign_Tuple_tuple (I.ok.hd hc) ht (by simp [hn, ← hl, rv.length]) hst fun h' hx => ?_
  have I1 : Inv X pins σ H { s with heap := h' } := I.kept (t' := s.toks) fun b o e => hx b o (Nat.ne_of_lt (Heap.lt_size e)) e
  exact h pins _ σ H xs _ Q I1 (by simpa using rv) hw
/-- o[i] = .. -/
def gSub (to ti : TE) (t : TSet) : TG := fun v σ H Q => to σ H fun o H1 => ti σ H1 fun i H2 => t o i v H2 fun H3 => Q σ H3
theorem pg_sub {o i : Expr} {to ti : TE} {t : TSet} (ho : PE X o to) (hi : PE X i ti) (hs : PSet X t)
    (ha : ∀ v, assign (.Subscript o i pos) X.env v = (do
      let ov ← holding [v] (eval o X.env)
      let iv ← holding [v, ov] (eval i X.env)
      standAt pos
      holding [v, ov, iv] (setItem ov iv v)
      release [v, ov, iv] []) := by intro _; rfl) : PG X (.Subscript o i pos) (gSub to ti t) := by
  intro pins s σ H v u Q I r h
  rw [ha]
  refine wpAny_bind (wpAny_holding (thn (ho pins s σ H _ I h) fun ov s1 ⟨x, H1, I1, r1, q1⟩ => ?_))
  refine wpAny_bind (wpAny_holding (thn (hi pins s1 σ H1 _ I1 q1) fun iv s2 ⟨y, H2, I2, r2, q2⟩ => ?_))
  refine wpAny_bind (wpAny_standAt (wpAny_bind (wpAny_holding (thn (hs pins s2 σ H2 x y v ov iv u _ I2 r1 r2 r q2) fun _ s3 ⟨H3, I3, q3⟩ => ?_))))
  exact wpAny_release ⟨σ, H3, I3, q3⟩
/-- target = value -/
def tAsg (te : TE) (g : TG) : TS := fun D σ H => te σ H fun x H1 => g x σ H1 D.nx
theorem ps_asg {tg e : Expr} {te : TE} {g : TG} (he : PE X e te) (hg : PG X tg g) (hs : swapsWithSole [tg] e pos.line X.env = pure false := by rfl) (hw : swappedStores [tg] e X.env = pure none := by rfl)
    (h1 : (assignEach [tg] X.env).map (·.2) = [assign tg X.env] := by rfl) : PS X (.Assign [tg] e pos) (tAsg te g) := by
  intro pins s σ H D I h
  refine wpAny_Assign_stores (thn (he pins s σ H _ I h) fun v s1 ⟨x, H1, I1, r1, q1⟩ => ?_) hs hw
  rw [h1]
  exact thn (hg pins s1 σ H1 x v _ I1 r1 q1) fun _ s2 q => q
/-- name = value -/
theorem ps_set {i : Nat} {x : Str} {e : Expr} {te : TE} {pos' : Pos} (hN : X.N.Nodup) (hi : X.N[i]? = some x) (hx : Loc X.env.scope x) (he : PE X e te) (hs : swapsWith e (some (.Name x pos')) pos.line X.env = pure false := by rfl) (hf : X.fn x = true ∨ X.env.scope.names.lookup x = some .local := by first | exact .inl rfl | exact .inr rfl | assumption) :
    PS X (.Assign [.Name x pos'] e pos) (tAsg te (gName i)) := by
  intro pins s σ H D I h
  refine wpAny_Assign_Name (thn (he pins s σ H _ I h) fun v s1 ⟨y, H1, I1, r1, q1⟩ => ?_) hs
  exact store_ok I1 hN hi hx r1 (fun s2 I2 => ⟨_, H1, I2, q1⟩) hf
/-- name op= e -/
def tAug (i : Nat) (te : TE) (ti : TIp) : TS := fun D σ H => ∃ x, σ[i]? = some (some x) ∧ te σ H fun y H1 => ti x y H1 fun z H2 => D.nx (σ.set i (some z)) H2
theorem ps_aug {i : Nat} {x : Str} {e : Expr} {te : TE} {op : Operator} {ti : TIp} {pos' : Pos} (hN : X.N.Nodup) (hi : X.N[i]? = some x) (hx : Loc X.env.scope x) (he : PE X e te) (ho : PIp X op ti) (hf : X.fn x = true ∨ X.env.scope.names.lookup x = some .local := by first | exact .inl rfl | exact .inr rfl | assumption) :
    PS X (.AugAssign (.Name x pos') op e pos) (tAug i te ti) := by
  intro pins s σ H D I h
  obtain ⟨v, e1, h⟩ := h
  obtain ⟨m, hn, hl⟩ := I.loc
  have vis : Vis X.env.scope x := by rcases hx with k | k; exact .inl k; exact .inr (.inl k)
  obtain ⟨u, r, l⟩ := hl i x v hi e1 vis
  refine wpAny_AugAssign_Name ?_
  have go : wpAny (model X.prog X.w) X.A (eval e X.env) (fun w s₂ => wpAny (model X.prog X.w) X.A (inplaceOp op u w) (fun r s₃ => wpAny (model X.prog X.w) X.A (storeName X.env x r) (fun _ => SP X pins D .next) X.xe s₃) X.xe s₂) X.xe s := by
    refine thn (he pins s σ H _ I h) fun w s1 ⟨y, H1, I1, r1, q1⟩ => ?_
    refine thn (ho pins s1 σ H1 v y u w _ I1 r r1 q1) fun z s2 ⟨zv, H2, I2, r2, q2⟩ => ?_
    exact store_ok I2 hN hi hx r2 (fun s3 I3 => ⟨_, H2, I3, q2⟩) hf
  rcases l with ⟨hk, hm⟩ | ⟨hk, c, hc, hcell⟩
  · exact wpAny_loadName_local I.ok.kind hk hn hm go
  · rcases hk with hk | hk
    · exact wpAny_loadName_cell I.ok.kind hk hc hcell go
    · rcases hx with k | k
      · have : X.env.scope.names.lookup x = some .free := hk
        rw [k] at this; cases this
      · have : X.env.scope.names.lookup x = some .free := hk
        rw [k] at this; cases this
/-- ints -/
def ipI (f : Int → Int → Int) : TIp := fun x y H Q => ∃ i j, x = .int i ∧ y = .int j ∧ Q (.int (f i j)) H
theorem ip_add : PIp X .Add (ipI fun i j => i + j) := by
  intro pins s σ H x y v u Q I r1 r2 h
  obtain ⟨i, j, e1, e2, q⟩ := h
  subst e1; subst e2
  obtain ⟨t, rfl⟩ := r1
  obtain ⟨t', rfl⟩ := r2
  exact iadd_int ⟨.int _, H, I.tok _, ⟨_, rfl⟩, q⟩
end

/-! ### while -/
section
variable {X : Cx} {pos : Pos}
end

/-! ### what a loop or a comprehension walks -/
/-- at turn i: it yields x (the heap may grow), or it stops -/
structure It where
  go : Nat → Hp → Prop
  yld : Nat → Hp → V → Hp → Prop
  stop : Nat → Hp → Prop
/-- the iterator's own objects may turn: they are not the frame's, not pinned, younger than the entry (or a comprehension's own) -/
def FpOk (X : Cx) (pins : List (Addr × Obj)) (H : Hp) (b : Addr) : Prop :=
  H b = none ∧ b ≠ X.env.locals ∧ b ∉ X.fs ∧ (b ∈ X.ex ∨ X.s₀.heap.objs.size ≤ b) ∧ (∀ x c, X.env.cells.lookup x = some c → c ≠ b) ∧ ∀ p ∈ X.pn ++ pins, p.1 ≠ b
theorem Inv.fpOk {X : Cx} {pins : List (Addr × Obj)} {σ : St} {H H' : Hp} {s : Shared} {b : Addr} (I : Inv X pins σ H s) (hb : s.heap.objs.size ≤ b) (hn : H' b = none) : FpOk X pins H' b := by
  refine ⟨hn, Nat.ne_of_gt (Nat.lt_of_lt_of_le I.lt hb), I.nofs hb, .inr (Nat.le_trans I.sz hb), fun x c e z => ?_, fun p hp z => ?_⟩
  · obtain ⟨v, q⟩ := I.cell x c e
    exact absurd (Nat.lt_of_lt_of_le q.lt (by rw [z]; exact hb)) (Nat.lt_irrefl _)
  · exact absurd (Nat.lt_of_lt_of_le (Heap.lt_size (I.pin p hp).1) (by rw [z]; exact hb)) (Nat.lt_irrefl _)
structure Turn (P : Program) (w : World) (K : PySem.W.Frag) (tg : Expr) (J : It) (fp : List Addr) (it : Addr) (tn : Nat → Heap → Prop) : Prop where
  mem : it ∈ fp
  obj : ∀ i h, tn i h → ∀ b ∈ fp, ∃ o, h.get? b = some o ∧ ∀ v, o.data ≠ .cell v
  keep : ∀ i h h', tn i h → (∀ b ∈ fp, ∀ o, h.get? b = some o → h'.get? b = some o) → tn i h'
  item : ∀ (X : Cx), X.prog = P → X.w = w → X.K = K → X.calm = true → ∀ (i : Nat) (pins : List (Addr × Obj)) (s : Shared) (σ : St) (H : Hp) (E : Value → Shared → Prop), Inv X pins σ H s → (∀ b ∈ fp, FpOk X pins H b) → tn i s.heap → J.go i H →
    wpAny (model P w) X.A (pyNext (.ref it)) (fun r s1 => ∃ u, r = some u ∧
      wpAny (model P w) X.A (letOwnedTupleGo tg (.ref it) u) (fun _ s2 => ∃ x H', Inv X pins σ H' s2 ∧ RelV x u ∧ J.yld i H x H' ∧ tn (i + 1) s2.heap ∧ ∀ b ∈ fp, H' b = none) E s1) E s
  done : ∀ (X : Cx), X.prog = P → X.w = w → X.K = K → X.calm = true → ∀ (i : Nat) (pins : List (Addr × Obj)) (s : Shared) (σ : St) (H : Hp) (E : Value → Shared → Prop), Inv X pins σ H s → (∀ b ∈ fp, FpOk X pins H b) → tn i s.heap → J.stop i H →
    wpAny (model P w) X.A (pyNext (.ref it)) (fun r s1 => r = none ∧ Inv X pins σ H s1) E s
  self : ∀ (A : Around) (i : Nat) (s : Shared) (Q : Value → Shared → Prop) (E : Value → Shared → Prop), tn i s.heap → Q (.ref it) s → wpAny (model P w) A (pyIter (.ref it)) Q E s
abbrev TI := St → Hp → (It → Hp → Prop) → Prop
/-- an iterator has come -/
def PIE (X : Cx) (pins : List (Addr × Obj)) (σ : St) (tg : Expr) (R : It → Hp → Prop) (itv : Value) (s2 : Shared) : Prop :=
  ∃ (it : Addr) (fp : List Addr) (tn : Nat → Heap → Prop) (J : It) (H' : Hp), itv = .ref it ∧ Inv X pins σ H' s2 ∧ Turn X.prog X.w X.K tg J fp it tn ∧ tn 0 s2.heap ∧ (∀ b ∈ fp, FpOk X pins H' b) ∧ R J H'
def PI (X : Cx) (tg iter : Expr) (wi : TI) : Prop :=
  ∀ (pins : List (Addr × Obj)) (s : Shared) (σ : St) (H : Hp) (R : It → Hp → Prop), Inv X pins σ H s → wi σ H R →
    wpAny (model X.prog X.w) X.A (eval iter X.env) (fun v s1 => wpAny (model X.prog X.w) X.A (pyIter v) (PIE X pins σ tg R) X.xe s1) X.xe s

/-- the step ahead of the store is nothing for an iterator that keeps no tuple -/
theorem go_of {M : Model} {A : Around} {E : Value → Shared → Prop} {s : Shared} {tg : Expr} {it : Addr} {u : Value} {o : Obj} {n : String} {vs : Array Value} {Q : Unit → Shared → Prop} (ho : s.heap.get? it = some o) (hc : o.cls = .type n) (hd : o.data = .fields vs)
    (hn : ["enumerate", "zip", "dict_itemiterator", "dict_reverseitemiterator", "odict_iterator", "itertools.zip_longest", "itertools.pairwise"].contains n = false) (hQ : Q () s) : wpAny M A (letOwnedTupleGo tg (.ref it) u) Q E s := by
  unfold letOwnedTupleGo
  cases tg <;> first
    | exact wpAny_pure hQ
    | (cases u <;> first
        | exact wpAny_pure hQ
        | (refine wpAny_bind (wpAny_load ho ?_)
           rw [hc, hd]
           show wpAny M A (if (["enumerate", "zip", "dict_itemiterator", "dict_reverseitemiterator", "odict_iterator", "itertools.zip_longest", "itertools.pairwise"].contains n && vs[0]? == some (rawInt _)) = true then _ else _) Q E s
           rw [if_neg (by intro h; rw [hn, Bool.false_and] at h; cases h)]
           exact wpAny_pure hQ))

/-- the list at a, as it stands at each turn (a loop may append to it) -/
def Itl (K : PySem.W.Frag) (a : Addr) : It :=
  ⟨fun i H => ∃ xs x, SqL K H a xs ∧ xs[i]? = some x, fun i H x H' => H' = H ∧ ∀ xs, SqL K H a xs → xs[i]? = some x, fun i H => ∃ xs, SqL K H a xs ∧ xs.length ≤ i⟩
/-- lo, lo + 1, .. (n of them) -/
def Itr (lo : Int) (n : Nat) : It := ⟨fun i _ => i < n, fun i H x H' => H' = H ∧ x = .int (lo + i), fun i _ => n ≤ i⟩
theorem turn_list {P : Program} {w : World} {K : PySem.W.Frag} {tg : Expr} (a it : Addr) : Turn P w K tg (Itl K a) [it] it (fun i h => h.IsListIter it a i) where
  mem := by simp
  obj := fun i h st b hb => by
    have e : b = it := by simpa using hb
    subst e
    obtain ⟨o, e, c, d⟩ := st
    exact ⟨o, e, fun v z => by rw [d] at z; cases z⟩
  keep := fun i h h' st k => st.at fun o e => k it (by simp) o e
  item := by
    intro X hP hw hK hc i pins s σ H E I hf st hg
    subst hP hw hK
    obtain ⟨xs, x, hq, hx⟩ := hg
    obtain ⟨its, rv, p, hz⟩ := I.list hq
    obtain ⟨u, hu, ru⟩ := rv.get hx
    obtain ⟨f0, f1, f2, f3, f4, f5⟩ := hf it (by simp)
    refine wpAny_pyNext_list_item st p.isList (x := u) (by simpa using hu) fun h' st' sb => ?_
    have I1 : Inv X pins σ H { s with heap := h' } := I.turned (t' := s.toks) (fun b o hb e => (sb.2 b hb).trans e) f0 f1 f3 f4 f5
    obtain ⟨o, e, c, d⟩ := id st'
    exact ⟨u, rfl, go_of (s := { s with heap := h' }) e c d (by decide) ⟨x, H, I1, ru, ⟨rfl, fun ys hy => by rw [I.list_inj hy hq]; exact hx⟩, st', fun b hb => (hf b hb).1⟩⟩
  done := by
    intro X hP hw hK hc i pins s σ H E I hf st hg
    subst hP hw hK
    obtain ⟨xs, hq, hx⟩ := hg
    obtain ⟨its, rv, p, hz⟩ := I.list hq
    obtain ⟨f0, f1, f2, f3, f4, f5⟩ := hf it (by simp)
    have hl := rv.length
    exact wpAny_pyNext_list_end (I.ok.hd hc) st p.isList (by simp; omega) fun h' eb => ⟨rfl, I.turned (t' := s.toks) (fun b o hb e => eb b o hb e) f0 f1 f3 f4 f5⟩
  self := fun _ _ _ _ _ st h => wpAny_pyIter_listiter st h
theorem turn_range {P : Program} {w : World} {K : PySem.W.Frag} {tg : Expr} (it : Addr) (lo : Int) (n : Nat) : Turn P w K tg (Itr lo n) [it] it (fun i h => IsRangeIter h it (lo + (i : Nat) * 1) ((n : Int) - (i : Nat)) 1) where
  mem := by simp
  obj := fun i h st b hb => by
    have e : b = it := by simpa using hb
    subst e
    exact ⟨_, st, fun v z => by
      have z' : Data.fields _ = Data.cell v := z
      cases z'⟩
  keep := fun i h h' st k => k it (by simp) _ st
  item := by
    intro X hP hw hK hc i pins s σ H E I hf st hg
    subst hP hw hK
    obtain ⟨f0, f1, f2, f3, f4, f5⟩ := hf it (by simp)
    have W := Walks.range (prog := X.prog) (w := X.w) (I.ok.hd hc) it lo 1 n
    refine W.item i s _ _ hg st fun v h' tk hv st' kk => ?_
    obtain ⟨t, rfl⟩ := hv
    have I1 : Inv X pins σ H { s with heap := h', toks := tk } := I.turned (fun b o hb e => kk b o (by simpa using hb) e) f0 f1 f3 f4 f5
    refine ⟨_, rfl, go_of (s := { s with heap := h', toks := tk }) (n := "range_iterator") st' rfl rfl (by decide) ⟨.int (lo + i), H, I1, ⟨t, ?_⟩, ⟨rfl, rfl⟩, st', fun b hb => (hf b hb).1⟩⟩
    rw [Int.mul_one]
  done := by
    intro X hP hw hK hc i pins s σ H E I hf st hg
    subst hP hw hK
    obtain ⟨f0, f1, f2, f3, f4, f5⟩ := hf it (by simp)
    exact wpAny_pyNext_range_end (I.ok.hd hc) st (by have : n ≤ i := hg; omega) fun h' eb => ⟨rfl, I.turned (t' := s.toks) (fun b o hb e => eb b o hb e) f0 f1 f3 f4 f5⟩
  self := fun _ _ _ _ _ st h => wpAny_pyIter_rangeiter st h
end L2

namespace L2
open PySem PySem.Spec PyProof.Rows
section
variable {X : Cx} {tg : Expr}
/-- a range object just made, walked -/
theorem range_it {pins : List (Addr × Obj)} {σ : St} {H : Hp} {s : Shared} {R : It → Hp → Prop} {E : Value → Shared → Prop} {lo hi : Int} {t u v : Tok} {tk : Nat} (I : Inv X pins σ H s) (h1 : -(2 ^ 62) ≤ lo) (h2 : lo < 2 ^ 62) (h3 : -(2 ^ 62) ≤ hi) (h4 : hi < 2 ^ 62)
    (q : R (Itr lo (hi - lo).toNat) H) : wpAny (model X.prog X.w) X.A (pyIter (.ref s.heap.objs.size)) (PIE X pins σ tg R) E { s with heap := s.heap.push { cls := .type "range", data := .fields #[.int lo t, .int hi u, .int 1 v] }, toks := tk } := by
  refine wpAny_pyIter_range (IsRange.new ..) (small_one h1 h2 h3 h4) ?_
  have I1 : Inv X pins σ H { s with heap := s.heap.push { cls := .type "range", data := .fields #[.int lo t, .int hi u, .int 1 v] }, toks := tk } := I.kept fun b o e => Heap.get?_push_of_some _ e
  refine ⟨(s.heap.push { cls := .type "range", data := .fields #[.int lo t, .int hi u, .int 1 v] }).objs.size, [(s.heap.push { cls := .type "range", data := .fields #[.int lo t, .int hi u, .int 1 v] }).objs.size], _, _, H, rfl,
    I1.kept (t' := tk) fun b o e => Heap.get?_push_of_some _ e, turn_range _ lo (hi - lo).toNat, ?_, fun b hb => ?_, q⟩
  · have e1 : lo + ((0 : Nat) : Int) * 1 = lo := by simp
    have e2 : (((hi - lo).toNat : Nat) : Int) - ((0 : Nat) : Int) = Builtin.Range.rangeSize lo hi 1 := by rw [rangeSize_one]; split <;> omega
    show IsRangeIter _ _ (lo + ((0 : Nat) : Int) * 1) ((((hi - lo).toNat : Nat) : Int) - ((0 : Nat) : Int)) 1
    rw [e1, e2]
    exact Heap.get?_push_size _ rfl
  · have e : b = (s.heap.push { cls := .type "range", data := .fields #[.int lo t, .int hi u, .int 1 v] }).objs.size := by simpa using hb
    subst e
    exact I1.fpOk (Nat.le_refl _) (I1.hok.fresh (Nat.le_refl _))
def iRng1 (ta : TA) : TI := fun σ H R => ta σ H fun vs H1 => ∃ j : Int, vs = [.int j] ∧ -(2 ^ 62) ≤ j ∧ j < 2 ^ 62 ∧ R (Itr 0 j.toNat) H1
theorem pi_range1 {a : Expr} {ta : TA} {p pos : Pos} (hg : Gl X "range") (hm : X.mg "range" = none) (ha : PA X [a] ta) (hs : starEach [a] X.env = [(false, eval a X.env)] := by rfl) : PI X tg (.Call (.Name "range" p) [a] [] pos) (iRng1 ta) := by
  intro pins s σ H R I h
  refine Call_ (ld_blt I hg hm boot_range (PyProof.Rows.callWith_type1 (thn (ha pos pins s σ H _ I h) fun us s1 ⟨vs, H1, I1, r1, q1⟩ => ?_) hs rfl))
  obtain ⟨j, e, q1, q2, q⟩ := q1
  subst e
  cases r1 with
  | cons r rr =>
    cases rr
    obtain ⟨t, rfl⟩ := r
    exact call_range_1 (range_it I1 (by omega) (by omega) q1 q2 (by simpa using q))
/-! ### for -/
/-- W: the invariant by the turn and a measure; N: what the body is to reach -/
def tFor (wi : TI) (g : TG) (tb : TS) : TS := fun D σ H => wi σ H fun J H1 => ∃ W : Nat → Nat → St → Hp → Prop, (∃ m, W 0 m σ H1) ∧ ∀ i m σ H, W i m σ H →
  (J.stop i H ∧ D.nx σ H) ∨ (J.go i H ∧ ∃ N : St → Hp → Prop, (∀ σ' H', N σ' H' → ∃ m', m' < m ∧ W (i + 1) m' σ' H') ∧ ∀ x H', J.yld i H x H' → g x σ H' fun σ2 H2 => tb { D with nx := N, ct := N, bk := D.nx } σ2 H2)
/-- the records at fp as they stand -/
def pinsAt (fp : List Addr) (h : Heap) : List (Addr × Obj) := fp.filterMap fun b => (h.get? b).map fun o => (b, o)
theorem mem_pinsAt {fp : List Addr} {h : Heap} {b : Addr} {o : Obj} (hb : b ∈ fp) (e : h.get? b = some o) : (b, o) ∈ pinsAt fp h := List.mem_filterMap.mpr ⟨b, hb, by rw [e]; rfl⟩
theorem of_pinsAt {fp : List Addr} {h : Heap} {p : Addr × Obj} (hp : p ∈ pinsAt fp h) : p.1 ∈ fp ∧ h.get? p.1 = some p.2 := by
  obtain ⟨b, hb, e⟩ := List.mem_filterMap.mp hp
  cases q : h.get? b with
  | none => rw [q] at e; cases e
  | some o =>
    rw [q] at e
    have e' : (b, o) = p := Option.some.inj e
    subst e'
    exact ⟨hb, q⟩
theorem Inv.pinned {pins : List (Addr × Obj)} {σ : St} {H : Hp} {s : Shared} {fp : List Addr} (I : Inv X pins σ H s) (hf : ∀ b ∈ fp, FpOk X pins H b) (ho : ∀ b ∈ fp, ∃ o, s.heap.get? b = some o ∧ ∀ v, o.data ≠ .cell v) : Inv X (pins ++ pinsAt fp s.heap) σ H s :=
  I.pins_of fun p hp => (List.mem_append.mp hp).elim (fun z => I.pin p (List.mem_append_right _ z)) fun z => by
    obtain ⟨hb, e⟩ := of_pinsAt z
    obtain ⟨f0, f1, f2, _⟩ := hf p.1 hb
    obtain ⟨o, e', d⟩ := ho p.1 hb
    rw [e] at e'; cases e'
    exact ⟨e, f0, f1, f2, d⟩
theorem Inv.unpinned {pins pl : List (Addr × Obj)} {σ : St} {H : Hp} {s : Shared} (I : Inv X (pins ++ pl) σ H s) : Inv X pins σ H s := I.pins_of fun p hp => I.pin p (List.mem_append_right _ (List.mem_append_left _ hp))
theorem ps_for {iter : Expr} {body : List Stmt} {wi : TI} {g : TG} {tb : TS} {pos : Pos} (hp : PassesOwn (model X.prog X.w) X.A X.env X.xe) (hc : X.calm = true) (hi : PI X tg iter wi) (hg : PG X tg g) (hb : PSs X body tb)
    (hs : ∀ x, foldedSetIterable iter X.env x = pure x := by intro _; rfl) : PS X (.For tg iter body [] pos) (tFor wi g tb) := by
  intro pins s σ H D I h
  refine wpAny_For (thn (hi pins s σ H _ I h) fun v s1 h1 => thn h1 fun itv s2 h2 => ?_) hs
  obtain ⟨it, fp, tn, J, H2, e, I2, T, st2, f2, W, ⟨m0, w0⟩, turn⟩ := h2
  subst e
  -- what stays true of the iterator's objects through the loop
  have stat : ∀ {H' : Hp}, (∀ b ∈ fp, H' b = none) → ∀ b ∈ fp, FpOk X pins H' b := fun hn b hb => ⟨hn b hb, (f2 b hb).2⟩
  refine codeAny_forLoop_any (fun n s' => ∃ i σ' H', Inv X pins σ' H' s' ∧ tn i s'.heap ∧ (∀ b ∈ fp, H' b = none) ∧ W i n σ' H') ?_ m0 ⟨0, σ, H2, I2, st2, fun b hb => (f2 b hb).1, w0⟩
  rintro n s3 ⟨i, σ3, H3, I3, st3, fr3, w3⟩
  rcases turn i n σ3 H3 w3 with ⟨stop, qn⟩ | ⟨go, N, hN, step⟩
  · refine wpAny_passesOwn hp (thn (T.done X rfl rfl rfl hc i pins s3 σ3 H3 X.xe I3 (stat fr3) st3 stop) fun r s4 ⟨hr, I4⟩ => ?_)
    subst hr
    exact wpAny_execs_nil ⟨σ3, H3, I4, qn⟩
  · refine wpAny_passesOwn hp (thn (T.item X rfl rfl rfl hc i pins s3 σ3 H3 X.xe I3 (stat fr3) st3 go) fun r s4 ⟨u, hr, h4⟩ => ?_)
    subst hr
    refine wpAny_passesOwn hp (thn h4 fun _ s5 ⟨x, H5, I5, r5, y5, st5, fr5⟩ => ?_)
    have I5' := I5.pinned (stat fr5) (T.obj _ _ st5)
    refine wpAny_passesOwn hp (thn (hg _ s5 σ3 H5 x u _ I5' r5 (step x H5 y5)) fun _ s6 ⟨σ6, H6, I6, q6⟩ => ?_)
    refine wpAny_passesOwn hp (thn (hb _ s6 σ6 H6 _ I6 q6) fun f s7 q7 => ?_)
    have again : ∀ {σ7 : St} {H7 : Hp}, Inv X (pins ++ pinsAt fp s5.heap) σ7 H7 s7 → N σ7 H7 → ∃ m, m < n ∧ ∃ i σ' H', Inv X pins σ' H' s7 ∧ tn i s7.heap ∧ (∀ b ∈ fp, H' b = none) ∧ W i m σ' H' := fun {σ7 H7} I7 n7 => by
      obtain ⟨m', hm, w7⟩ := hN σ7 H7 n7
      refine ⟨m', hm, i + 1, σ7, H7, I7.unpinned, T.keep _ _ _ st5 fun b hb o e => (I7.pin (b, o) (List.mem_append_right _ (List.mem_append_right _ (mem_pinsAt hb e)))).1, fun b hb => ?_, w7⟩
      obtain ⟨o, e, d⟩ := T.obj _ _ st5 b hb
      exact (I7.pin (b, o) (List.mem_append_right _ (List.mem_append_right _ (mem_pinsAt hb e)))).2.1
    cases f with
    | next => obtain ⟨σ7, H7, I7, n7⟩ := q7; exact again I7 n7
    | cont => obtain ⟨σ7, H7, I7, n7⟩ := q7; exact again I7 n7
    | brk => obtain ⟨σ7, H7, I7, q7⟩ := q7; exact ⟨σ7, H7, I7.unpinned, q7⟩
    | ret v => obtain ⟨x7, σ7, H7, I7, r7, q7⟩ := q7; exact ⟨x7, σ7, H7, I7.unpinned, r7, q7⟩
end

/-! ### the forms one uses -/
/-- over a list that the body leaves as it is -/
theorem for_list {K : PySem.W.Frag} {a : Addr} {xs : List V} {g : TG} {tb : TS} {D : Ends} {σ : St} {H : Hp} (Pv : Nat → St → Hp → Prop) (h0 : Pv 0 σ H) (hl : ∀ i σ H, i ≤ xs.length → Pv i σ H → SqL K H a xs)
    (hs : ∀ i x σ H, xs[i]? = some x → Pv i σ H → g x σ H fun σ2 H2 => tb { D with nx := Pv (i + 1), ct := Pv (i + 1), bk := D.nx } σ2 H2) (hd : ∀ σ H, Pv xs.length σ H → D.nx σ H) :
    ∃ W : Nat → Nat → St → Hp → Prop, (∃ m, W 0 m σ H) ∧ ∀ i m σ H, W i m σ H →
      ((Itl K a).stop i H ∧ D.nx σ H) ∨ ((Itl K a).go i H ∧ ∃ N : St → Hp → Prop, (∀ σ' H', N σ' H' → ∃ m', m' < m ∧ W (i + 1) m' σ' H') ∧ ∀ x H', (Itl K a).yld i H x H' → g x σ H' fun σ2 H2 => tb { D with nx := N, ct := N, bk := D.nx } σ2 H2) := by
  refine ⟨fun i m σ H => m = xs.length - i ∧ i ≤ xs.length ∧ Pv i σ H, ⟨xs.length, by simp, Nat.zero_le _, h0⟩, ?_⟩
  rintro i m σ H ⟨rfl, hi, p⟩
  have q := hl i σ H hi p
  by_cases hlt : i < xs.length
  · refine .inr ⟨⟨xs, xs[i], q, by simp [hlt]⟩, Pv (i + 1), fun σ' H' p' => ⟨xs.length - (i + 1), by omega, rfl, hlt, p'⟩, fun x H' y => ?_⟩
    obtain ⟨e, y⟩ := y
    subst e
    exact hs i x σ _ (y xs q) p
  · have e : i = xs.length := by omega
    subst e
    exact .inl ⟨⟨xs, q, Nat.le_refl _⟩, hd σ H p⟩
theorem for_range {lo : Int} {n : Nat} {g : TG} {tb : TS} {D : Ends} {σ : St} {H : Hp} (Pv : Nat → St → Hp → Prop) (h0 : Pv 0 σ H)
    (hs : ∀ i σ H, i < n → Pv i σ H → g (.int (lo + i)) σ H fun σ2 H2 => tb { D with nx := Pv (i + 1), ct := Pv (i + 1), bk := D.nx } σ2 H2) (hd : ∀ σ H, Pv n σ H → D.nx σ H) :
    ∃ W : Nat → Nat → St → Hp → Prop, (∃ m, W 0 m σ H) ∧ ∀ i m σ H, W i m σ H →
      ((Itr lo n).stop i H ∧ D.nx σ H) ∨ ((Itr lo n).go i H ∧ ∃ N : St → Hp → Prop, (∀ σ' H', N σ' H' → ∃ m', m' < m ∧ W (i + 1) m' σ' H') ∧ ∀ x H', (Itr lo n).yld i H x H' → g x σ H' fun σ2 H2 => tb { D with nx := N, ct := N, bk := D.nx } σ2 H2) := by
  refine ⟨fun i m σ H => m = n - i ∧ i ≤ n ∧ Pv i σ H, ⟨n, by simp, Nat.zero_le _, h0⟩, ?_⟩
  rintro i m σ H ⟨rfl, hi, p⟩
  by_cases hlt : i < n
  · refine .inr ⟨hlt, Pv (i + 1), fun σ' H' p' => ⟨n - (i + 1), by omega, rfl, hlt, p'⟩, fun x H' y => ?_⟩
    obtain ⟨e, y⟩ := y
    subst e y
    exact hs i σ _ hlt p
  · have e : i = n := by omega
    subst e
    exact .inl ⟨Nat.le_refl _, hd σ H p⟩
end L2

namespace L2
open PySem PySem.Spec PyProof.Rows

abbrev R2 := V → V → Hp → VK → Prop
/-- a two-place operation on values: f is binaryOp op, inplaceOp op or compareOp op -/
def OpR (X : Cx) (f : Value → Value → Sem Value) (r : R2) : Prop :=
  ∀ (pins : List (Addr × Obj)) (s : Shared) (σ : St) (H : Hp) (x y : V) (v u : Value) (Q : VK), Inv X pins σ H s → RelV x v → RelV y u → r x y H Q →
    wpAny (model X.prog X.w) X.A (f v u) (EP X pins σ Q) X.xe s
/-- a one-place operation -/
def UnR (X : Cx) (f : Value → Sem Value) (r : V → Hp → VK → Prop) : Prop :=
  ∀ (pins : List (Addr × Obj)) (s : Shared) (σ : St) (H : Hp) (x : V) (v : Value) (Q : VK), Inv X pins σ H s → RelV x v → r x H Q →
    wpAny (model X.prog X.w) X.A (f v) (EP X pins σ Q) X.xe s
/-- a call of a value that is known (a builtin, a type) with values -/
def CallR (X : Cx) (f : Value) (r : List V → Hp → VK → Prop) : Prop :=
  ∀ (pins : List (Addr × Obj)) (s : Shared) (σ : St) (H : Hp) (xs : List V) (us : List Value) (Q : VK), Inv X pins σ H s → Vals xs us → r xs H Q →
    wpAny (model X.prog X.w) X.A (call f us) (EP X pins σ Q) X.xe s
/-- a value's truth -/
def TruR (X : Cx) (r : V → Hp → (Bool → Hp → Prop) → Prop) : Prop :=
  ∀ (pins : List (Addr × Obj)) (s : Shared) (σ : St) (H : Hp) (x : V) (v : Value) (Q : Bool → Hp → Prop), Inv X pins σ H s → RelV x v → r x H Q →
    wpAny (model X.prog X.w) X.A (truthy v) (TP X pins σ Q) X.xe s

def tOp (r : R2) (ta tb : TE) : TE := fun σ H Q => ta σ H fun x H1 => tb σ H1 fun y H2 => r x y H2 Q
def tUn (r : V → Hp → VK → Prop) (ta : TE) : TE := fun σ H Q => ta σ H fun x H1 => r x H1 Q
/-- ints in, under C, and a value out -/
def rI (C : Int → Int → Prop) (g : Int → Int → V) : R2 := fun x y H Q => ∃ i j, x = .int i ∧ y = .int j ∧ C i j ∧ Q (g i j) H
def rI0 (g : Int → Int → V) : R2 := fun x y H Q => ∃ i j, x = .int i ∧ y = .int j ∧ Q (g i j) H
def rU (g : Int → V) : V → Hp → VK → Prop := fun x H Q => ∃ i, x = .int i ∧ Q (g i) H

section
variable {X : Cx} {a b c : Expr} {ta tb tc : TE} {pos : Pos}

theorem binT (ha : PE X a ta) (hb : PE X b tb) {pins : List (Addr × Obj)} {s : Shared} {σ : St} {H : Hp} {R : V → V → Hp → Prop} (I : Inv X pins σ H s)
    (h : ta σ H fun x H1 => tb σ H1 fun y H2 => R x y H2) {Q : Value → Shared → Prop} {f : Value → Value → Sem Value}
    (hf : ∀ v u s2 x y H2, Inv X pins σ H2 s2 → RelV x v → RelV y u → R x y H2 → wpAny (model X.prog X.w) X.A (f v u) Q X.xe s2) :
    wpAny (model X.prog X.w) X.A (eval a X.env) (fun v s₁ => wpAny (model X.prog X.w) X.A (eval b X.env) (fun u s₂ => wpAny (model X.prog X.w) X.A (f v u) Q X.xe s₂) X.xe s₁) X.xe s := by
  refine thn (ha pins s σ H _ I h) fun v s1 ⟨x, H1, I1, r1, q1⟩ => ?_
  refine thn (hb pins s1 σ H1 _ I1 q1) fun u s2 ⟨y, H2, I2, r2, q2⟩ => ?_
  exact hf v u s2 x y H2 I2 r1 r2 q2

theorem pe_op {op : Operator} {r : R2} (ho : OpR X (binaryOp op) r) (ha : PE X a ta) (hb : PE X b tb) : PE X (.BinOp a op b pos) (tOp r ta tb) := by
  intro pins s σ H Q I h
  exact wpAny_BinOp (binT ha hb I h fun v u s2 x y H2 I2 rx ry q => ho pins s2 σ H2 x y v u Q I2 rx ry q)
theorem pe_un {op : UnaryOp} {r : V → Hp → VK → Prop} (ho : UnR X (unaryOp op) r) (ha : PE X a ta) : PE X (.UnaryOp op a pos) (tUn r ta) := by
  intro pins s σ H Q I h
  exact UnaryOp_ (thn (ha pins s σ H _ I h) fun v s1 ⟨x, H1, I1, r1, q1⟩ => ho pins s1 σ H1 x v Q I1 r1 q1)
/-! ### ints -/
theorem opI {f : Value → Value → Sem Value} {C : Int → Int → Prop} {g : Int → Int → Int}
    (rule : ∀ (i j : Int) (t u : Tok) (s : Shared) (Q : Value → Shared → Prop) (E : Value → Shared → Prop), C i j → Q (.int (g i j) s.toks) { s with toks := s.toks + 1 } → wpAny (model X.prog X.w) X.A (f (.int i t) (.int j u)) Q E s) :
    OpR X f (rI C fun i j => .int (g i j)) := by
  intro pins s σ H x y v u Q I rx ry h
  obtain ⟨i, j, rfl, rfl, hc, q⟩ := h
  obtain ⟨t, rfl⟩ := rx
  obtain ⟨t', rfl⟩ := ry
  exact rule i j t t' s _ _ hc ⟨.int (g i j), H, I.tok _, ⟨_, rfl⟩, q⟩
theorem opI0 {f : Value → Value → Sem Value} {g : Int → Int → Int}
    (rule : ∀ (i j : Int) (t u : Tok) (s : Shared) (Q : Value → Shared → Prop) (E : Value → Shared → Prop), Q (.int (g i j) s.toks) { s with toks := s.toks + 1 } → wpAny (model X.prog X.w) X.A (f (.int i t) (.int j u)) Q E s) :
    OpR X f (rI0 fun i j => .int (g i j)) := by
  intro pins s σ H x y v u Q I rx ry h
  obtain ⟨i, j, rfl, rfl, q⟩ := h
  obtain ⟨t, rfl⟩ := rx
  obtain ⟨t', rfl⟩ := ry
  exact rule i j t t' s _ _ ⟨.int (g i j), H, I.tok _, ⟨_, rfl⟩, q⟩
theorem opB0 {f : Value → Value → Sem Value} {g : Int → Int → Bool}
    (rule : ∀ (i j : Int) (t u : Tok) (s : Shared) (Q : Value → Shared → Prop) (E : Value → Shared → Prop), Q (.bool (g i j)) s → wpAny (model X.prog X.w) X.A (f (.int i t) (.int j u)) Q E s) :
    OpR X f (rI0 fun i j => .bl (g i j)) := by
  intro pins s σ H x y v u Q I rx ry h
  obtain ⟨i, j, rfl, rfl, q⟩ := h
  obtain ⟨t, rfl⟩ := rx
  obtain ⟨t', rfl⟩ := ry
  exact rule i j t t' s _ _ ⟨.bl (g i j), H, I, rfl, q⟩

def CPow (i j : Int) : Prop := 0 ≤ j ∧ j ≤ 1000000 ∧ i.natAbs < 2 ^ 64
def CMul (i j : Int) : Prop := (-(2 ^ 64) < i ∧ i < 2 ^ 64) ∨ (-(2 ^ 64) < j ∧ j < 2 ^ 64)
theorem CMul.ok {i j : Int} (h : CMul i j) : IntMulOk i j := by
  rcases h with ⟨h1, h2⟩ | ⟨h1, h2⟩
  · exact .of_left (intBits_le_64 h1 h2)
  · exact .of_right (intBits_le_64 h1 h2)
theorem op_add : OpR X (binaryOp .Add) (rI0 fun i j => .int (i + j)) := opI0 fun _ _ _ _ _ _ _ q => add_int q
theorem op_sub : OpR X (binaryOp .Sub) (rI0 fun i j => .int (i - j)) := opI0 fun _ _ _ _ _ _ _ q => sub_int q
theorem op_mul : OpR X (binaryOp .Mult) (rI CMul fun i j => .int (i * j)) := opI fun _ _ _ _ _ _ _ hc q => mul_int q hc.ok
/-- % by a positive divisor of any size -/
theorem op_mod : OpR X (binaryOp .Mod) (rI (fun _ j => 0 < j) fun i j => .int (i % j)) := opI fun i j _ _ _ _ _ hc q => by
  have h1 : (0 : Int) < j := hc
  exact mod_int' (by omega) (by rw [Int.fmod_eq_emod_of_nonneg i (by omega)]; exact q)
theorem op_pow : OpR X (binaryOp .Pow) (rI CPow fun i j => .int (i ^ j.toNat)) := opI fun _ _ _ _ _ _ _ hc q => pow_int_small hc.1 hc.2.1 hc.2.2 q
theorem unI {f : Value → Sem Value} {g : Int → Int}
    (rule : ∀ (i : Int) (t : Tok) (s : Shared) (Q : Value → Shared → Prop) (E : Value → Shared → Prop), Q (.int (g i) s.toks) { s with toks := s.toks + 1 } → wpAny (model X.prog X.w) X.A (f (.int i t)) Q E s) :
    UnR X f (rU fun i => .int (g i)) := by
  intro pins s σ H x v Q I rx h
  obtain ⟨i, rfl, q⟩ := h
  obtain ⟨t, rfl⟩ := rx
  exact rule i t s _ _ ⟨.int (g i), H, I.tok _, ⟨_, rfl⟩, q⟩
theorem un_neg : UnR X (unaryOp .USub) (rU fun i => .int (-i)) := unI fun _ _ _ _ _ q => neg_int q
/-! ### bools among ints: n += (a < b) -/
end

/-! ### comparisons -/
/-- the scalars that == tells apart as data does -/
def scal : V → V → Bool
  | .non, .non => true | .non, .int _ => true | .int _, .non => true | .non, .bl _ => true | .bl _, .non => true | .non, .str _ => true | .str _, .non => true
  | .int _, .int _ => true | .bl _, .bl _ => true | .str _, .str _ => true | .byt _, .byt _ => true
  | .int _, .str _ => true | .str _, .int _ => true | .bl _, .str _ => true | .str _, .bl _ => true
  | _, _ => false
def rEq : R2 := fun x y H Q => scal x y = true ∧ Q (.bl (decide (x = y))) H
def rNe : R2 := fun x y H Q => scal x y = true ∧ Q (.bl (!decide (x = y))) H

theorem dec_int {i j : Int} : decide (V.int i = V.int j) = (i == j) := by
  rw [Bool.eq_iff_iff]
  simp
theorem dec_bl {i j : Bool} : decide (V.bl i = V.bl j) = (i == j) := by
  rw [Bool.eq_iff_iff]
  simp
theorem dec_str {i j : Str} : decide (V.str i = V.str j) = (i == j) := by
  rw [Bool.eq_iff_iff]
  simp
theorem dec_byt {i j : Array UInt8} : decide (V.byt i = V.byt j) = (i.toList == j.toList) := by
  rw [Bool.eq_iff_iff]
  cases i
  cases j
  simp

section
variable {X : Cx} {a b c : Expr} {ta tb tc : TE} {pos : Pos}
theorem fin_bl {pins : List (Addr × Obj)} {σ : St} {H : Hp} {s : Shared} {Q : VK} {k k' : Bool} (I : Inv X pins σ H s) (q : Q (.bl k) H) (e : k = k') : EP X pins σ Q (.bool k') s := by
  subst e
  exact ⟨.bl k, H, I, rfl, q⟩
theorem op_eq : OpR X (compareOp .Eq) rEq := by
  intro pins s σ H x y v u Q I rx ry h
  obtain ⟨hs, q⟩ := h
  cases x with
  | non =>
    cases rx
    cases y with
    | non => cases ry; exact PySem.EqNone.eq_none_none (fin_bl I q (by simp))
    | bl j => cases ry; exact PySem.EqNone.eq_none_bool (fin_bl I q (by simp))
    | int j => obtain ⟨t', rfl⟩ := ry; exact PySem.EqNone.eq_none_int (fin_bl I q (by simp))
    | str j => obtain ⟨t', rfl⟩ := ry; exact PySem.EqNone.eq_none_str (fin_bl I q (by simp))
    | _ => exact absurd (show false = true from hs) Bool.false_ne_true
  | bl i =>
    cases rx
    cases y with
    | non => cases ry; exact PySem.EqNone.eq_bool_none (fin_bl I q (by simp))
    | bl j => cases ry; exact eq_bool (fin_bl I q dec_bl)
    | str j => obtain ⟨t', rfl⟩ := ry; exact PySem.EqMixed.eq_bool_str (fin_bl I q (by simp))
    | _ => exact absurd (show false = true from hs) Bool.false_ne_true
  | int i =>
    obtain ⟨t, rfl⟩ := rx
    cases y with
    | non => cases ry; exact PySem.EqNone.eq_int_none (fin_bl I q (by simp))
    | int j => obtain ⟨t', rfl⟩ := ry; exact eq_int (fin_bl I q dec_int)
    | str j => obtain ⟨t', rfl⟩ := ry; exact PySem.EqMixed.eq_int_str (fin_bl I q (by simp))
    | _ => exact absurd (show false = true from hs) Bool.false_ne_true
  | str i =>
    obtain ⟨t, rfl⟩ := rx
    cases y with
    | non => cases ry; exact PySem.EqNone.eq_str_none (fin_bl I q (by simp))
    | bl j => cases ry; exact PySem.EqMixed.eq_str_bool (fin_bl I q (by simp))
    | int j => obtain ⟨t', rfl⟩ := ry; exact PySem.EqMixed.eq_str_int (fin_bl I q (by simp))
    | str j => obtain ⟨t', rfl⟩ := ry; exact eq_str (fin_bl I q dec_str)
    | _ => exact absurd (show false = true from hs) Bool.false_ne_true
  | byt i =>
    obtain ⟨t, rfl⟩ := rx
    cases y with
    | byt j => obtain ⟨t', rfl⟩ := ry; exact PySem.W.eq_bytes (fin_bl I q dec_byt)
    | _ => exact absurd (show false = true from hs) Bool.false_ne_true
  | _ => cases y <;> exact absurd (show false = true from hs) Bool.false_ne_true
theorem op_ne : OpR X (compareOp .NotEq) rNe := by
  intro pins s σ H x y v u Q I rx ry h
  obtain ⟨hs, q⟩ := h
  cases x with
  | non =>
    cases rx
    cases y with
    | non => cases ry; exact PySem.EqNone.ne_none_none (fin_bl I q (by simp))
    | bl j => cases ry; exact PySem.EqNone.ne_none_bool (fin_bl I q (by simp))
    | int j => obtain ⟨t', rfl⟩ := ry; exact PySem.EqNone.ne_none_int (fin_bl I q (by simp))
    | str j => obtain ⟨t', rfl⟩ := ry; exact PySem.EqNone.ne_none_str (fin_bl I q (by simp))
    | _ => exact absurd (show false = true from hs) Bool.false_ne_true
  | bl i =>
    cases rx
    cases y with
    | non => cases ry; exact PySem.EqNone.ne_bool_none (fin_bl I q (by simp))
    | bl j => cases ry; exact ne_bool (fin_bl I q (congrArg not dec_bl))
    | str j => obtain ⟨t', rfl⟩ := ry; exact PySem.EqMixed.ne_bool_str (fin_bl I q (by simp))
    | _ => exact absurd (show false = true from hs) Bool.false_ne_true
  | int i =>
    obtain ⟨t, rfl⟩ := rx
    cases y with
    | non => cases ry; exact PySem.EqNone.ne_int_none (fin_bl I q (by simp))
    | int j => obtain ⟨t', rfl⟩ := ry; exact ne_int (fin_bl I q (congrArg not dec_int))
    | str j => obtain ⟨t', rfl⟩ := ry; exact PySem.EqMixed.ne_int_str (fin_bl I q (by simp))
    | _ => exact absurd (show false = true from hs) Bool.false_ne_true
  | str i =>
    obtain ⟨t, rfl⟩ := rx
    cases y with
    | non => cases ry; exact PySem.EqNone.ne_str_none (fin_bl I q (by simp))
    | bl j => cases ry; exact PySem.EqMixed.ne_str_bool (fin_bl I q (by simp))
    | int j => obtain ⟨t', rfl⟩ := ry; exact PySem.EqMixed.ne_str_int (fin_bl I q (by simp))
    | str j => obtain ⟨t', rfl⟩ := ry; exact ne_str (fin_bl I q (congrArg not dec_str))
    | _ => exact absurd (show false = true from hs) Bool.false_ne_true
  | byt i =>
    obtain ⟨t, rfl⟩ := rx
    cases y with
    | byt j => obtain ⟨t', rfl⟩ := ry; exact PySem.W.ne_bytes (fin_bl I q (congrArg not dec_byt))
    | _ => exact absurd (show false = true from hs) Bool.false_ne_true
  | _ => cases y <;> exact absurd (show false = true from hs) Bool.false_ne_true

theorem op_lt : OpR X (compareOp .Lt) (rI0 fun i j => .bl (decide (i < j))) := opB0 fun _ _ _ _ _ _ _ q => lt_int q
theorem op_le : OpR X (compareOp .LtE) (rI0 fun i j => .bl (decide (i ≤ j))) := opB0 fun _ _ _ _ _ _ _ q => le_int q
theorem op_gt : OpR X (compareOp .Gt) (rI0 fun i j => .bl (decide (j < i))) := opB0 fun _ _ _ _ _ _ _ q => gt_int q
theorem op_ge : OpR X (compareOp .GtE) (rI0 fun i j => .bl (decide (j ≤ i))) := opB0 fun _ _ _ _ _ _ _ q => ge_int q
/-- is None, is not None: the right side a value none -/
theorem op_isN : OpR X (compareOp .Is) (fun x y H Q => y = .non ∧ Q (.bl (decide (x = .non))) H) := by
  intro pins s σ H x y v u Q I rx ry h
  obtain ⟨rfl, q⟩ := h
  cases ry
  refine is_none_gen (fin_bl I q ?_)
  cases x <;> first
    | (cases rx; rfl)
    | (obtain ⟨t, rfl⟩ := rx; rfl)
theorem nomark (b : Expr) {op : CmpOp} (h : op ≠ .In := by decide) (h2 : op ≠ .NotIn := by decide) : behindInMarks op b = false := by
  have e1 : (op == CmpOp.In) = false := by cases op <;> first | rfl | exact absurd rfl h
  have e2 : (op == CmpOp.NotIn) = false := by cases op <;> first | rfl | exact absurd rfl h2
  cases b <;> simp [behindInMarks, e1, e2]
/-- a comparison as a value; hm: nomark b, or (for in, not in) by with_unfolding_all rfl -/
theorem pe_cmpR {op : CmpOp} {r : R2} (ho : OpR X (compareOp op) r) (ha : PE X a ta) (hb : PE X b tb) (hm : behindInMarks op b = false) : PE X (.Compare a [op] [b] pos) (tOp r ta tb) := by
  intro pins s σ H Q I h
  exact wpAny_Compare1 (binT ha hb I h fun v u s2 x y H2 I2 rx ry q => ho pins s2 σ H2 x y v u Q I2 rx ry q) hm
/-! ### truth -/
/-- a value's truth by the abstract heap -/
def TruV (K : PySem.W.Frag) (x : V) (H : Hp) (k : Bool) : Prop :=
  match x with
  | .non => k = false
  | .bl b => k = b
  | .int i => k = (i != 0)
  | .str y => y.length ≤ sizeLine ∧ k = ((y.length : Int) != 0)
  | .byt y => y.size ≤ sizeLine ∧ k = ((y.size : Int) != 0)
  | .ref p => (∃ xs, SqL K H p xs ∧ k = !xs.isEmpty) ∨ (∃ xs, SqT K H p xs ∧ k = !xs.isEmpty) ∨ ∃ kvs, H p = some (.dK kvs) ∧ k = !kvs.isEmpty
  | _ => False
theorem isEmpty_kv {κ : Type} {kvs : List (κ × V)} {vs : List (κ × Value)} (r : KV kvs vs) : (!vs.isEmpty) = !kvs.isEmpty := by
  cases r <;> rfl
theorem isEmpty_of {xs : List V} {its : List Value} (r : Vals xs its) : (!its.toArray.isEmpty) = !xs.isEmpty := by
  cases r <;> simp
theorem line63 : (sizeLine : Nat) < 2 ^ 63 := by rw [sizeLine_eq]; decide
theorem tru_ok : TruR X (fun x H Q => ∃ k, TruV X.K x H k ∧ Q k H) := by
  intro pins s σ H x v Q I rx h
  obtain ⟨k, e, q⟩ := h
  have hl := line63
  have hs : sizeLine = 16777216 := sizeLine_eq
  cases x with
  | non =>
    cases rx
    have e' : k = false := e
    subst e'
    exact truthy_none ⟨H, I, q⟩
  | bl b =>
    cases rx
    have e' : k = b := e
    subst e'
    exact wpAny_truthy_bool ⟨H, I, q⟩
  | int i =>
    obtain ⟨t, rfl⟩ := rx
    have e' : k = (i != 0) := e
    subst e'
    exact PySem.P.truthy_int ⟨H, I, q⟩
  | str y =>
    obtain ⟨t, rfl⟩ := rx
    obtain ⟨hy, e'⟩ : y.length ≤ sizeLine ∧ k = ((y.length : Int) != 0) := e
    subst e'
    exact PySem.P.truthy_str (by omega) ⟨H, I.tok _, q⟩
  | byt y =>
    obtain ⟨t, rfl⟩ := rx
    obtain ⟨hy, e'⟩ : y.size ≤ sizeLine ∧ k = ((y.size : Int) != 0) := e
    subst e'
    exact PySem.W.truthy_bytes (by omega) ⟨H, I.tok _, q⟩
  | ref p =>
    cases rx
    have e' : (∃ xs, SqL X.K H p xs ∧ k = !xs.isEmpty) ∨ (∃ xs, SqT X.K H p xs ∧ k = !xs.isEmpty) ∨ ∃ kvs, H p = some (.dK kvs) ∧ k = !kvs.isEmpty := e
    rcases e' with ⟨xs, hx, e'⟩ | ⟨xs, hx, e'⟩ | ⟨kvs, hx, e'⟩
    · subst e'
      obtain ⟨its, r, pl, hz⟩ := I.list hx
      have hlen := r.length
      exact wpAny_truthy_list pl.isList (by simp only [List.size_toArray]; omega) ⟨H, I.tok _, by rw [isEmpty_of r]; exact q⟩
    · subst e'
      obtain ⟨its, r, pl, hz⟩ := I.tuple hx
      have hlen := r.length
      exact truthy_tuple pl (by simp only [List.size_toArray]; omega) ⟨H, I.tok _, by rw [isEmpty_of r]; exact q⟩
    · subst e'
      obtain ⟨hz, hS, vs, r, m⟩ : kvs.length ≤ sizeLine ∧ (p == sysModules) = false ∧ ∃ vs, KV kvs vs ∧ s.heap.DictOf (mixKind X.prog X.w) p vs := I.hok p _ hx
      have hlen : kvs.length = vs.length := Paired.length r
      exact wpAny_truthy_dict hS m (by omega) ⟨H, I.tok _, by rw [isEmpty_kv r]; exact q⟩
  | _ => exact (show False from e).elim
/-! ### strs and bytes -/
theorem op_add_str : OpR X (binaryOp .Add) (fun x y H Q => ∃ i j, x = .str i ∧ y = .str j ∧ i.length + j.length ≤ sizeLine ∧ Q (.str (i ++ j)) H) := by
  intro pins s σ H x y v u Q I rx ry h
  obtain ⟨i, j, rfl, rfl, hz, q⟩ := h
  obtain ⟨t, rfl⟩ := rx
  obtain ⟨t', rfl⟩ := ry
  exact add_str (fun t' tk => ⟨.str (i ++ j), H, I.tok _, ⟨_, rfl⟩, q⟩) hz
/-! ### scalar builtins, by CallR -/
theorem vals1 {x : V} {us : List Value} (r : Vals [x] us) : ∃ u, us = [u] ∧ RelV x u := by
  cases r with
  | cons r1 r2 => cases r2; exact ⟨_, rfl, r1⟩
theorem vals2 {x y : V} {us : List Value} (r : Vals [x, y] us) : ∃ u w', us = [u, w'] ∧ RelV x u ∧ RelV y w' := by
  cases r with
  | cons r1 r2 =>
    cases r2 with
    | cons r3 r4 => cases r4; exact ⟨_, _, rfl, r1, r3⟩
theorem call_max2 (hc : X.calm = true) : CallR X (.builtin "max") (fun xs H Q => ∃ i j, xs = [.int i, .int j] ∧ Q (.int (if j > i then j else i)) H) := by
  intro pins s σ H xs us Q I r h
  obtain ⟨i, j, rfl, q⟩ := h
  obtain ⟨u, w', rfl, ⟨t, rfl⟩, ⟨t', rfl⟩⟩ := vals2 r
  refine max_two_ints (I.ok.hd hc) fun h' tk k => ⟨_, H, I.kept k, ?_, q⟩
  by_cases hj : j > i
  · rw [if_pos hj, if_pos hj]; exact ⟨_, rfl⟩
  · rw [if_neg hj, if_neg hj]; exact ⟨_, rfl⟩
theorem call_min2 (hc : X.calm = true) : CallR X (.builtin "min") (fun xs H Q => ∃ i j, xs = [.int i, .int j] ∧ Q (.int (if j < i then j else i)) H) := by
  intro pins s σ H xs us Q I r h
  obtain ⟨i, j, rfl, q⟩ := h
  obtain ⟨u, w', rfl, ⟨t, rfl⟩, ⟨t', rfl⟩⟩ := vals2 r
  refine min_two_ints (I.ok.hd hc) fun h' tk k => ⟨_, H, I.kept k, ?_, q⟩
  by_cases hj : j < i
  · rw [if_pos hj, if_pos hj]; exact ⟨_, rfl⟩
  · rw [if_neg hj, if_neg hj]; exact ⟨_, rfl⟩
theorem call_int1 : CallR X (.type "int") (fun xs H Q => (∃ i, xs = [.int i] ∧ Q (.int i) H) ∨ ∃ k, xs = [.bl k] ∧ Q (.int (if k then 1 else 0)) H) := by
  intro pins s σ H xs us Q I r h
  rcases h with ⟨i, rfl, q⟩ | ⟨k, rfl, q⟩
  · obtain ⟨u, rfl, t, rfl⟩ := vals1 r
    exact call_int_int ⟨.int i, H, I, ⟨_, rfl⟩, q⟩
  · obtain ⟨u, rfl, r1⟩ := vals1 r
    cases r1
    exact call_int_bool ⟨.int (if k then 1 else 0), H, I.tok _, ⟨_, rfl⟩, q⟩
theorem call_str_int : CallR X (.type "str") (fun xs H Q => ∃ i, xs = [.int i] ∧ i.natAbs.log2 < 1920 ∧ Q (.str (toString i)) H) := by
  intro pins s σ H xs us Q I r h
  obtain ⟨i, rfl, hz, q⟩ := h
  obtain ⟨u, rfl, t, rfl⟩ := vals1 r
  exact PySem.P.str_of_int hz ⟨.str _, H, I.tok _, ⟨_, rfl⟩, q⟩
end
end L2

namespace L2
open PySem PySem.Spec PyProof.Rows

/-! ### an instance, its attributes a map -/
structure ObjM (h : Heap) (x dx C : Addr) (mA : Str → Option Value) : Prop where
  obj : h.get? x = some (PySem.W.instObj C dx)
  ns : h.Ns1 dx mA
  ne : dx ≠ x

theorem lookIn_ns {h : Heap} {dx : Addr} {mA : Str → Option Value} (n : h.Ns1 dx mA) : ∃ od, h.get? dx = some od ∧ ∀ name, PySem.W.lookIn name od = some (mA name) := by
  obtain ⟨o, es, ep, ho, hd, hk, _, hm⟩ := n
  refine ⟨o, ho, fun name => ?_⟩
  have e := hm name
  unfold nsFind findBy at e
  rw [← Array.find?_toList] at e
  unfold PySem.W.lookIn
  rw [hd]
  dsimp only
  split
  · rename_i y q
    rw [q] at e
    exact congrArg some e
  · rename_i q
    rw [q] at e
    have a : es.toList.any (·.refKey) = false := by
      rw [List.any_eq_false]
      intro y hy
      obtain ⟨z, t, hkey⟩ := hk y (Array.mem_toList_iff.mp hy)
      simp [DictEntry.refKey, hkey]
    have a' : ¬ es.toList.any (·.refKey) = true := by rw [a]; exact Bool.false_ne_true
    rw [if_neg a']
    exact congrArg some e

theorem ObjM.look {h : Heap} {x dx C : Addr} {mA : Str → Option Value} (I : ObjM h x dx C mA) : ∃ od, PySem.W.InstAt h x (PySem.W.instObj C dx) C (some od) ∧ ∀ name, PySem.W.lookIn name od = some (mA name) :=
  let ⟨od, ho, hl⟩ := lookIn_ns I.ns
  ⟨od, ⟨I.obj, rfl, rfl, ho⟩, hl⟩

section
variable {prog : Program} {w : World} {A : Around} {E : Value → Shared → Prop} {s : Shared} {K : PySem.W.Frag} {x dx C f : Addr} {mA : Str → Option Value} {name : Str} {v : Value}

end

/-! ### the attributes as a list of pairs -/
section
variable {P : Program} {w : World} {H H' : Hp} {h h' : Heap} {a C dx : Addr} {fs fs' : List (Str × V)}
theorem ins_get (hok : HOk P w H h) (e : H a = some (.ins C dx fs)) : ∃ mA, ObjM h a dx C mA ∧ (∀ f, RelO (fs.lookup f) (mA f)) ∧ PySem.Within mA (fs.map (·.1)) ∧ fs.length ≤ 1000 ∧ H dx = some (.own a) := by
  obtain ⟨d, z, ne, ob, mA, n, r, q⟩ := (show ObjOk P w H h a (.ins C dx fs) from hok a _ e)
  exact ⟨mA, ⟨ob, n, ne⟩, r, q, z, d⟩
end

/-! ### what of the text a class must have -/
structure Cls (K : PySem.W.Frag) (C : Addr) : Prop where
  pg : PySem.W.plainGet K C Str.empty = true
  hd : PySem.W.hasDictIn K C = true
  po : PySem.W.plainOver K C = true
  sa : PySem.W.findIn K (.ref C) "__setattr__" = some (some (.builtin "object.__setattr__"))
theorem Cls.get {K : PySem.W.Frag} {C : Addr} (c : Cls K C) (f : Str) : PySem.W.plainGet K C f = true := c.pg
/-- a constant of the class -/
structure Con (K : PySem.W.Frag) (C : Addr) (f : Str) (v : V) (u : Value) : Prop where
  at_ : PySem.W.findIn K (.ref C) f = some (some u)
  rel : RelV v u
  get : PySem.W.specialIn K u "__get__" = some none
  cp : PySem.W.copiedNames.contains f = false
/-- a method: a plain def of the class or of one above it -/
structure Meth (K : PySem.W.Frag) (C : Addr) (m : Str) (f : Addr) : Prop where
  at_ : PySem.W.findIn K (.ref C) m = some (some (.ref f))
  fn : PySem.W.isFn K (.ref f) = true
  kp : PySem.W.keepIn K (.ref f) = true

section
variable {X : Cx} {pins : List (Addr × Obj)} {σ : St} {H : Hp} {s : Shared} {a C dx : Addr} {fs : List (Str × V)} {f : Str} {v : V} {A : Around} {E : Value → Shared → Prop}

end

/-! ### readings and rules -/
section
variable {X : Cx} {o e value : Expr} {f : Str} {pos pos' tpos : Pos} {ta tv : TE}
end

/-! ### isinstance -/
section
variable {X : Cx} {pins : List (Addr × Obj)} {σ : St} {H : Hp} {s : Shared} {A : Around} {E : Value → Shared → Prop} {Q : Value → Shared → Prop} {c : Value} {b : Bool}
/-- the type of a value, as the fragment's deciders take it; for an instance its class -/
inductive TyOf (K : PySem.W.Frag) (H : Hp) : V → Value → Prop where
  | non : TyOf K H .non (.type "NoneType")
  | bl (x : Bool) : TyOf K H (.bl x) (.type "bool")
  | int (i : Int) : TyOf K H (.int i) (.type "int")
  | str (x : Str) : TyOf K H (.str x) (.type "str")
  | flt (x : UInt64) : TyOf K H (.flt x) (.type "float")
  | lst {a : Addr} {xs : List V} (e : H a = some (.lst xs)) : TyOf K H (.ref a) (.type "list")
  | frz {a : Addr} {o : Obj} {xs : List V} (e : H a = some (.frz o (.lst xs))) : TyOf K H (.ref a) (.type "list")
  | tup {a : Addr} {xs : List V} (e : H a = some (.tup xs)) : TyOf K H (.ref a) (.type "tuple")
  | dK {a : Addr} {kvs : List (Key × V)} (e : H a = some (.dK kvs)) : TyOf K H (.ref a) (.type "dict")
  | dT {a : Addr} {kvs : List (List Key × V)} (e : H a = some (.dT kvs)) : TyOf K H (.ref a) (.type "dict")
  | ins {a C dx : Addr} {fs : List (Str × V)} (e : H a = some (.ins C dx fs)) (cl : Cls K C) (ha : PySem.W.findIn K (.ref C) "__class__" = some (some (.builtin "object.__class__")))
      (hn : PySem.W.specialIn K (.builtin "object.__class__") "__get__" = some (some (.builtin "getset_descriptor.__get__"))) (htk : PySem.W.takesIn K (.builtin "object.__class__") = some true)
      (hm : PySem.W.mroIn K C (.type "object") = some true) : TyOf K H (.ref a) (.ref C)
/-- isinstance(x, c) for one class c, a built-in or an own one: kitOne's answer -/
theorem isinst_ok {x : V} {u t : Value} (I : Inv X pins σ H s) (rx : RelV x u) (ty : TyOf X.K H x t) (e : PySem.W.kitOne X.K t c = some b) (h : ∀ tk, Q (.bool b) { s with toks := tk }) :
    wpAny (model X.prog X.w) A (call (.builtin "isinstance") [u, c]) Q E s := by
  cases ty with
  | non => cases (show u = Value.none from rx); exact PySem.W.kia_one PySem.W.kitx_none I.kIn True.intro e (fun z => nomatch z) h
  | bl y => cases (show u = Value.bool y from rx); exact PySem.W.kia_one PySem.W.kitx_bool I.kIn True.intro e (fun z => nomatch z) h
  | int i => obtain ⟨t, q⟩ := (show ∃ t, u = Value.int i t from rx); cases q; exact PySem.W.kia_one PySem.W.kitx_int I.kIn True.intro e (fun z => nomatch z) h
  | str y => obtain ⟨t, q⟩ := (show ∃ t, u = Value.str y t from rx); cases q; exact PySem.W.kia_one PySem.W.kitx_str I.kIn True.intro e (fun z => nomatch z) h
  | flt y => obtain ⟨t, q⟩ := (show ∃ t, u = Value.float y t from rx); cases q; exact PySem.W.kia_one PySem.W.kitx_float I.kIn True.intro e (fun z => nomatch z) h
  | @lst a xs ea =>
    cases (show u = Value.ref a from rx)
    obtain ⟨_, _, n, _, h1⟩ := (show ObjOk X.prog X.w H s.heap a (.lst xs) from I.hok a _ ea)
    exact PySem.W.kia_one PySem.W.kitx_list I.kIn ⟨_, h1, rfl⟩ e (fun z => nomatch z) h
  | @frz a ob xs ea =>
    cases (show u = Value.ref a from rx)
    obtain ⟨_, _, _, n, _, h1⟩ := (show ObjOk X.prog X.w H s.heap a (.frz ob (.lst xs)) from I.hok a _ ea)
    exact PySem.W.kia_one PySem.W.kitx_list I.kIn ⟨_, h1, rfl⟩ e (fun z => nomatch z) h
  | @tup a xs ea =>
    cases (show u = Value.ref a from rx)
    obtain ⟨_, _, _, p⟩ := (show ObjOk X.prog X.w H s.heap a (.tup xs) from I.hok a _ ea)
    obtain ⟨o, h1, h2, _⟩ := p
    exact PySem.W.kia_one PySem.W.kitx_tuple I.kIn ⟨o, h1, h2⟩ e (fun z => nomatch z) h
  | @dK a kvs ea =>
    cases (show u = Value.ref a from rx)
    obtain ⟨_, _, vs, _, p⟩ := (show ObjOk X.prog X.w H s.heap a (.dK kvs) from I.hok a _ ea)
    obtain ⟨o, es, ep, h1, h2, _⟩ := p
    exact PySem.W.kia_one PySem.W.kitx_dict I.kIn ⟨o, h1, h2.1⟩ e (fun z => nomatch z) h
  | @dT a kvs ea =>
    cases (show u = Value.ref a from rx)
    obtain ⟨_, _, xs, _, o, es, ep, h1, h2, _⟩ := (show ObjOk X.prog X.w H s.heap a (.dT kvs) from I.hok a _ ea)
    exact PySem.W.kia_one PySem.W.kitx_dict I.kIn ⟨o, h1, h2.1⟩ e (fun z => nomatch z) h
  | @ins a C dx fs ea cl ha hn htk hm =>
    cases (show u = Value.ref a from rx)
    obtain ⟨mA, O, _⟩ := ins_get I.hok ea
    obtain ⟨od, J, _⟩ := O.look
    exact PySem.W.kia_one (PySem.W.kitx_own (cl.get _) cl.hd ha hn htk hm) I.kIn J e (fun z => nomatch z) h
end
end L2

namespace L2
open PySem PySem.Spec PyProof.Rows

/-! ### room -/
structure Room (k : Nat) (A : Around) : Prop where
  hd : A.handled = none
  dp : A.depth + 3 * k + 5 < recursionLimit
  un : A.units + 16 * k + 200 < cLine
  gd : A.guards = some []
theorem Room.mono {j k : Nat} {A : Around} (r : Room k A) (h : j ≤ k) : Room j A := ⟨r.hd, by have := r.dp; omega, by have := r.un; omega, r.gd⟩
theorem Room.deeper {k : Nat} {A : Around} (r : Room (k + 1) A) (env : Env) : Room k (A.deeper env) :=
  ⟨r.hd, by have := r.dp; show A.depth + 1 + 3 * k + 5 < _; omega, by have := r.un; show A.units + 3 + 16 * k + 200 < _; omega, r.gd⟩
theorem Room.depth {k : Nat} {A : Around} (r : Room k A) : A.depth < recursionLimit := by have := r.dp; omega
theorem Room.units {k : Nat} {A : Around} (r : Room k A) : A.units + 64 < cLine := by have := r.un; omega
theorem Room.units0 {k : Nat} {A : Around} (r : Room k A) : A.units < cLine := by have := r.un; omega

/-! ### argument lists and displays -/
def tNil : TA := fun _ H Q => Q [] H
def tCons (ta : TE) (tr : TA) : TA := fun σ H Q => ta σ H fun x H1 => tr σ H1 fun xs H2 => Q (x :: xs) H2
section
variable {X : Cx} {e : Expr} {es : List Expr} {te : TE} {t : TA} {pos : Pos}
theorem pa_nil : PA X [] tNil := fun _ _ _ _ H Q I h => Calls.spliced_nil ⟨[], H, I, .nil, h⟩
theorem pa_cons (ha : PE X e te) (hr : PA X es t) (hs : starEach (e :: es) X.env = (false, eval e X.env) :: starEach es X.env := by rfl) : PA X (e :: es) (tCons te t) := by
  intro pos pins s σ H Q I h
  rw [hs]
  show wpAny _ _ (spliced ((false, eval e X.env) :: backTo pos (starEach es X.env))) _ _ s
  refine Calls.spliced_cons (thn (ha pins s σ H _ I h) fun u s1 ⟨x, H1, I1, r1, q1⟩ => ?_)
  exact thn (hr pos pins s1 σ H1 _ I1 q1) fun us s2 ⟨xs, H2, I2, r2, q2⟩ => ⟨x :: xs, H2, I2, .cons r1 r2, q2⟩

/-- a tuple, a list of written items -/
def tTup (t : TA) : TE := fun σ H Q => t σ H fun xs H1 => xs.length ≤ sizeLine ∧ ∀ p, H1 p = none → Q (.ref p) (upd H1 p (.tup xs))
def tLst (t : TA) : TE := fun σ H Q => t σ H fun xs H1 => xs.length ≤ sizeLine ∧ ∀ p, H1 p = none → Q (.ref p) (upd H1 p (.lst xs))
theorem pe_tup {x1} (h : PA X es t) : PE X (.Tuple es x1 pos) (tTup t) := by
  intro pins s σ H Q I hq
  refine wpAny_Tuple_spliced (thn (h pos pins s σ H _ I hq) fun us s1 ⟨xs, H1, I1, r, z, q⟩ => ⟨by rw [← r.length]; exact z, ?_⟩)
  have hf : H1 s1.heap.objs.size = none := I1.hok.fresh (Nat.le_refl _)
  refine ⟨.ref s1.heap.objs.size, upd H1 s1.heap.objs.size (.tup xs), I1.laid (t' := s1.toks) (fun b u e => Heap.get?_push_of_some _ e) (Nat.le_refl _) ?_, rfl, q _ hf⟩
  exact ⟨z, us, r, ⟨_, Heap.get?_push_size _ rfl, rfl, _, rfl⟩⟩
theorem pe_lst (h : PA X es t) : PE X (.List es pos) (tLst t) := by
  intro pins s σ H Q I hq
  refine wpAny_List_spliced (thn (h pos pins s σ H _ I hq) fun us s1 ⟨xs, H1, I1, r, z, q⟩ => ⟨by rw [← r.length]; exact z, ?_⟩)
  have hf : H1 s1.heap.objs.size = none := I1.hok.fresh (Nat.le_refl _)
  refine ⟨.ref s1.heap.objs.size, upd H1 s1.heap.objs.size (.lst xs), I1.laid (t' := s1.toks) (fun b u e => Heap.get?_push_of_some _ e) (Nat.le_refl _) ?_, rfl, q _ hf⟩
  exact ⟨z, us, 0, r, Heap.get?_push_size _ rfl⟩
end

/-! ### what a def promises -/
/-- a def's promise: the bound arguments in the parameters' order, the heap, the wanted end, the wanted exception -/
abbrev Sp := List V → Hp → VK → XK → Prop
/-- how an exception lies behind a call (file 08 gives it): the callers' frames, abstract heap and state ahead of the call, the wish, the exception, the state -/
abbrev CXT := List Env → Hp → Shared → XK → Value → Shared → Prop

/-- the state at a call -/
structure Env0 (P : Program) (w : World) (K : PySem.W.Frag) (mg : Str → Option Value) (base : Heap) (A : Around) (outer : List Env) (s : Shared) (H : Hp) : Prop where
  frames : A.frames = some outer
  mod : Mod K mg base
  bs : ∀ b o, base.get? b = some o → s.heap.get? b = some o ∧ H b = none
  bsz : base.objs.size ≤ s.heap.objs.size
  funs : s.heap.FunFrames base outer
  frf : ∀ b ∈ frs outer, H b = none
  hok : HOk P w H s.heap
  bare : AllBare s.gens
/-- a call's end -/
def CE (outer : List Env) (P : Program) (w : World) (H : Hp) (s : Shared) (Q : VK) (u : Value) (s' : Shared) : Prop :=
  ∃ v H', s'.os = s.os ∧ AllBare s'.gens ∧ Un (frs outer) [] H H' s.heap s'.heap ∧ HOk P w H' s'.heap ∧ RelV v u ∧ Q v H'
def CR (CX : CXT) (outer : List Env) (P : Program) (w : World) (H : Hp) (s : Shared) (Q : VK) (E : XK) (r : Result) (s' : Shared) : Prop :=
  match r with
  | .ok (.ret u) => CE outer P w H s Q u s'
  | .ok _ => False
  | .error e => CX outer H s E e s'
structure FnOk (P : Program) (w : World) (K : PySem.W.Frag) (mg : Str → Option Value) (base : Heap) (CX : CXT) (k : Nat) (f : Addr) (fd : FuncData) (ps : List Str) (sp : Sp) : Prop where
  len : ∀ vs H Q E, sp vs H Q E → vs.length = ps.length
  run : ∀ (A : Around) (outer : List Env) (s : Shared) (H : Hp) (args : Args) (us : List Value) (vs : List V) (Q : VK) (E : XK), Room k A → Env0 P w K mg base A outer s H → BindsTo s fd args (ps.zip us) → Vals vs us → sp vs H Q E →
    codeAny (model P w) A (.call (.ref f) args) (CR CX outer P w H s Q E) s
section
variable {X : Cx} {pins : List (Addr × Obj)} {σ : St} {H : Hp} {s s' : Shared}
/-- from a body: what a callee wants -/
theorem Inv.env0 (I : Inv X pins σ H s) : Env0 X.prog X.w X.K X.mg X.base X.A X.stack s H :=
  ⟨I.ok.frames, I.ok.mod, I.bs, Nat.le_trans I.ok.bsz I.sz, I.stack, I.stkFree, I.hok, I.bare⟩
/-- behind a call -/
theorem Inv.after {Q : VK} {u : Value} (I : Inv X pins σ H s) (h : CE X.stack X.prog X.w H s Q u s') : EP X pins σ Q u s' := by
  obtain ⟨v, H', os, bare, un, hok, r, q⟩ := h
  obtain ⟨hh, g, d, t, os'⟩ := s'
  obtain rfl : os' = s.os := os
  exact ⟨v, H', I.call (h' := hh) (g' := g) (d' := d) (t' := t) (ch := []) un hok bare (fun b z => absurd z (by simp)), r, q⟩
end

/-! ### calls -/
/-- f(..): the written arguments, then the defaults dvs; E: what is wanted of an exception -/
def tCall (sp : Sp) (dvs : List V) (E : XK) (t : TA) : TE := fun σ H Q => t σ H fun vs H1 => sp (vs ++ dvs) H1 Q E
/-- how the parameters are bound: us the positional arguments, kw the keywords' values by name, ds the defaults that fill up -/
def Binds (K : PySem.W.Frag) (fd : FuncData) (ps : List Str) (ds : List Value) : Prop :=
  ∀ (s : Shared) (us : List Value), K.In s.heap → (us ++ ds).length = ps.length → BindsTo s fd ⟨us, []⟩ (ps.zip (us ++ ds))
/-- every parameter is given -/
theorem Binds.all {K : PySem.W.Frag} {fd : FuncData} {ps : List Str} (h : ∀ us : List Value, us.length = ps.length → bindArgs fd ⟨us, []⟩ = pure (ps.zip us)) : Binds K fd ps [] := fun s us _ hl => by
  rw [List.append_nil] at hl ⊢
  exact .of_eq (h us hl)

/-- an exception of a callee reaches what this body wants of exceptions -/
def Passes (CX : CXT) (X : Cx) (E : XK) : Prop := ∀ (pins : List (Addr × Obj)) (σ : St) (H : Hp) (s : Shared) (e : Value) (s' : Shared), Inv X pins σ H s → CX X.stack H s E e s' → X.xe e s'

section
variable {X : Cx} {CX : CXT} {k : Nat} {f C : Addr} {fd : FuncData} {ps : List Str} {sp : Sp} {dvs : List V} {ds : List Value} {E : XK} {x m : Str} {p pos apos : Pos} {e o : Expr} {es : List Expr} {ta : TE} {t : TA}

/-- the callee runs -/
theorem run_fn {pins : List (Addr × Obj)} {σ : St} {H : Hp} {s : Shared} {Q : VK} {us : List Value} {vs : List V} (F : FnOk X.prog X.w X.K X.mg X.base CX k f fd ps sp) (hr : Room k X.A) (hb : Binds X.K fd ps ds) (hd : Vals dvs ds) (hx : Passes CX X E)
    (I : Inv X pins σ H s) (r : Vals vs us) (h : sp (vs ++ dvs) H Q E) : wpAny (model X.prog X.w) X.A (call (.ref f) us) (EP X pins σ Q) X.xe s := by
  have r2 : Vals (vs ++ dvs) (us ++ ds) := r.append hd
  have hl : (us ++ ds).length = ps.length := by rw [← r2.length]; exact F.len _ _ _ _ h
  refine wpAny_call (codeAny_mono (F.run X.A X.stack s H ⟨us, []⟩ (us ++ ds) (vs ++ dvs) Q E hr I.env0 (hb s us I.kIn hl) r2 h) fun r s' hq => ?_)
  cases r with
  | error e => exact hx pins σ H s e s' I hq
  | ok fl =>
    cases fl with
    | ret u => exact I.after hq
    | next => exact False.elim hq
    | brk => exact False.elim hq
    | cont => exact False.elim hq

theorem pe_call (F : FnOk X.prog X.w X.K X.mg X.base CX k f fd ps sp) (hr : Room k X.A) (hg : Gl X x) (hm : X.mg x = some (.ref f)) (hk : PySem.W.keepIn X.K (.ref f) = true) (hb : Binds X.K fd ps ds) (hd : Vals dvs ds) (hx : Passes CX X E)
    (ha : PA X (e :: es) t) (hdb : (x == ("__debug__" : Str)) = false := by decide) (he : starEach (e :: es) X.env = (false, eval e X.env) :: starEach es X.env := by rfl) (hpl : (backTo pos (starEach es X.env)).any (·.1) = false := by rfl) :
    PE X (.Call (.Name x p) (e :: es) [] pos) (tCall sp dvs E t) := by
  intro pins s σ H Q I h
  refine wpAny_Call_Name_kw (ld_glob I hg hm ?_ hdb)
  refine PySem.W.callWith_K (h₀ := X.base) I.ok.mod.kin hk (thn (ha pos pins s σ H _ I h) fun us s1 ⟨vs, H1, I1, r, q⟩ => ⟨I1.kIn, ?_⟩) he hpl
  exact run_fn F hr hb hd hx I1 r q
/-- what a class must have to be made -/
structure Mk (K : PySem.W.Frag) (C f : Addr) : Prop where
  makes : PySem.W.makesIn K C = true
  init : PySem.W.findIn K (.ref C) "__init__" = some (some (.ref f))
  fn : PySem.W.isFn K (.ref f) = true
  kp : PySem.W.keepIn K (.ref C) = true

end

/-! ### keywords -/
section
variable {X : Cx} {CX : CXT} {k : Nat} {f C : Addr} {fd : FuncData} {ps ks : List Str} {sp : Sp} {E : XK} {x m : Str} {p pos apos kpos : Pos} {e o : Expr} {es : List Expr} {kws : List Keyword} {te ta : TE} {t tk : TA} {nm : Option Str}
/-- how a call with keywords binds: g puts the positional values us and the keywords' values ws (names ks) in the parameters' order, defaults among them -/
structure KBinds (K : PySem.W.Frag) (fd : FuncData) (ps ks : List Str) (g : List Value → List Value → List Value) (gV : List V → List V → List V) : Prop where
  to : ∀ (s : Shared) (us ws : List Value), K.In s.heap → (g us ws).length = ps.length → BindsTo s fd ⟨us, ks.zip ws⟩ (ps.zip (g us ws))
  rel : ∀ {vs : List V} {us : List Value} {zs : List V} {ws : List Value}, Vals vs us → Vals zs ws → Vals (gV vs zs) (g us ws)
variable {g : List Value → List Value → List Value} {gV : List V → List V → List V}
end

/-! ### a def's body keeps its promise -/
/-- names: the parameters first -/
structure FnScope (N P : List Str) (sc : Scope) : Prop where
  kind : sc.kind = .function
  co : sc.isCoroutine = false
  gen : sc.isGenerator = false
  nd : N.Nodup
  pre : N.take P.length = P
  par : ∀ x ∈ P, sc.names.lookup x = some .local ∨ sc.names.lookup x = some .cell
  nofree : ∀ y ∈ sc.names, y.2 ≠ .free

theorem bindL_out {kindOf : Str → Option NameKind} {x : Str} : ∀ {binds : List (Str × Value)} {m : Str → Option Value}, (∀ v, (x, v) ∉ binds) → bindL kindOf binds m x = m x
  | [], _, _ => rfl
  | (n, v) :: r, m, h => by
    unfold bindL
    rw [bindL_out fun w hw => h w (List.mem_cons_of_mem _ hw)]
    split
    · have : x ≠ n := by rintro rfl; exact h v List.mem_cons_self
      simp [this]
    · rfl
theorem bindC_out {kindOf : Str → Option NameKind} {x : Str} : ∀ {binds : List (Str × Value)} {m : Str → Option Value}, (∀ v, (x, v) ∉ binds) → bindC kindOf binds m x = m x
  | [], _, _ => rfl
  | (n, v) :: r, m, h => by
    unfold bindC
    rw [bindC_out fun w hw => h w (List.mem_cons_of_mem _ hw)]
    split
    · rfl
    · have : x ≠ n := by rintro rfl; exact h v List.mem_cons_self
      simp [this]
theorem bindL_get {kindOf : Str → Option NameKind} {x : Str} {v : Value} : ∀ {P : List Str} {vs : List Value} {i : Nat} {m : Str → Option Value}, P.Nodup → P[i]? = some x → vs[i]? = some v → kindOf x = some .local →
    bindL kindOf (P.zip vs) m x = some v
  | [], _, _, _, _, h, _, _ => by simp at h
  | _ :: _, [], _, _, _, _, h, _ => by simp at h
  | p :: P, w :: vs, 0, m, nd, h1, h2, hk => by
    simp at h1 h2; subst h1; subst h2
    show bindL kindOf ((p, w) :: P.zip vs) m p = _
    unfold bindL
    rw [bindL_out fun v hv => (List.nodup_cons.mp nd).1 (List.of_mem_zip hv).1, if_pos hk]
    simp
  | p :: P, w :: vs, i + 1, m, nd, h1, h2, hk => by
    show bindL kindOf ((p, w) :: P.zip vs) m x = _
    unfold bindL
    exact bindL_get (i := i) (List.nodup_cons.mp nd).2 (by simpa using h1) (by simpa using h2) hk
theorem bindC_get {kindOf : Str → Option NameKind} {x : Str} {v : Value} : ∀ {P : List Str} {vs : List Value} {i : Nat} {m : Str → Option Value}, P.Nodup → P[i]? = some x → vs[i]? = some v → kindOf x ≠ some .local →
    bindC kindOf (P.zip vs) m x = some v
  | [], _, _, _, _, h, _, _ => by simp at h
  | _ :: _, [], _, _, _, _, h, _ => by simp at h
  | p :: P, w :: vs, 0, m, nd, h1, h2, hk => by
    simp at h1 h2; subst h1; subst h2
    show bindC kindOf ((p, w) :: P.zip vs) m p = _
    unfold bindC
    rw [bindC_out fun v hv => (List.nodup_cons.mp nd).1 (List.of_mem_zip hv).1, if_neg hk]
    simp
  | p :: P, w :: vs, i + 1, m, nd, h1, h2, hk => by
    show bindC kindOf ((p, w) :: P.zip vs) m x = _
    unfold bindC
    exact bindC_get (i := i) (List.nodup_cons.mp nd).2 (by simpa using h1) (by simpa using h2) hk

/-- the names' values at the entry -/
def start (N : List Str) (vs : List V) : St := vs.map some ++ List.replicate (N.length - vs.length) none

/-- the context of a def's body, at its entry; an exception leaves the frame, then lies as CX says -/
def cxOf (CX : CXT) (P : Program) (w : World) (K : PySem.W.Frag) (mg : Str → Option Value) (base : Heap) (N : List Str) (qual : Str) (scope : Scope) (f : Addr) (cd : Value) (A : Around) (outer : List Env) (s : Shared) (H : Hp) (E : XK) : Cx where
  prog := P
  w := w
  K := K
  mg := mg
  base := base
  A := A.deeper (envOfC qual scope s.heap.objs.size f cd)
  N := N
  s₀ := s
  H₀ := H
  env := envOfC qual scope s.heap.objs.size f cd
  outer := outer
  stack := envOfC qual scope s.heap.objs.size f cd :: outer
  ex := []
  calm := true
  fn := fun _ => true
  pn := []
  xe := fun e s' => wpAny (model P w) (A.deeper (envOfC qual scope s.heap.objs.size f cd)) (leaving (envOfC qual scope s.heap.objs.size f cd) e) (fun _ s'' => CX outer H s E e s'') (fun e' s'' => CX outer H s E e' s'') s'

theorem cell_has {sc : Scope} {n : Nat} {x : Str} (h : sc.names.lookup x = some .cell) : ∃ c, (cellsFrom n sc.names []).lookup x = some c := by
  have q := PySem.W.cellsFrom_some sc.names n [] (.inl h)
  exact Option.isSome_iff_exists.mp q

theorem inv_start {CX : CXT} {P : Program} {w : World} {K : PySem.W.Frag} {mg : Str → Option Value} {base : Heap} {N ps : List Str} {qual : Str} {scope : Scope} {f : Addr} {cd : Value} {A : Around} {outer : List Env} {s s1 : Shared} {H : Hp} {E : XK} {us : List Value} {vs : List V}
    (S : FnScope N ps scope) (hd : A.handled = none) (e0 : Env0 P w K mg base A outer s H) (hl : vs.length = ps.length) (r : Vals vs us)
    (x : InCallC s s.heap.objs.size (bindL (envOfC qual scope s.heap.objs.size f cd).kindOf (ps.zip us) fun _ => none) (cellsFrom (s.heap.objs.size + 1) scope.names []) (bindC (envOfC qual scope s.heap.objs.size f cd).kindOf (ps.zip us) fun _ => none) s1) :
    Inv (cxOf CX P w K mg base N qual scope f cd A outer s H E) [] (start N vs) H s1 := by
  have hpl : ps.length ≤ N.length := by have := congrArg List.length S.pre; rw [List.length_take] at this; omega
  obtain ⟨h1, tk, rfl, hk⟩ := x.done
  have noA : ∀ b : Addr, b ∉ (cxOf CX P w K mg base N qual scope f cd A outer s H E).ex := fun b z => absurd (show b ∈ ([] : List Addr) from z) (by simp)
  refine ⟨⟨e0.mod, S.kind, rfl, rfl, Nat.le_refl _, fun y z c h1 h2 => ?_, fun y hy => ?_, fun y c _ h => ?_, fun _ => hd, Around.frames_deeper e0.frames, .inr ⟨rfl, rfl⟩, fun b z => absurd z (noA b), e0.bs, e0.bsz, fun b _ _ => noA b, fun b z => absurd z (noA b), e0.funs, e0.frf⟩,
    rfl, e0.bare, Un.kept hk, ⟨_, x.toInCall.ns, fun i y v h1 h2 h3 => ?_⟩, fun y c h => ⟨_, x.cell y c h⟩, e0.hok.fresh (Nat.le_refl _), fun y c h => ?_, fun p hp => absurd (show p ∈ ([] : List (Addr × Obj)) from hp) (by simp), e0.hok.kept hk, ?_⟩
  · exact name_of_addr x.apart (PySem.mem_of_lookup h1) (PySem.mem_of_lookup h2)
  · have hy : scope.names.lookup y = some .cell ∨ scope.names.lookup y = some .free := hy
    rcases hy with hy | hy
    · exact cell_has hy
    · exact absurd rfl (S.nofree _ (PySem.mem_of_lookup hy))
  · exact Nat.le_of_lt (x.above y c (PySem.mem_of_lookup h))
  · have hi : i < vs.length := by
      unfold start at h2
      by_cases hi : i < vs.length
      · exact hi
      · rw [List.getElem?_append_right (by simpa using hi)] at h2
        rw [List.getElem?_replicate] at h2
        split at h2 <;> cases h2
    have ha : vs[i]? = some v := by
      unfold start at h2
      rw [List.getElem?_append_left (by simpa using hi), List.getElem?_map] at h2
      cases e : vs[i]? with
      | none => rw [e] at h2; cases h2
      | some a => rw [e] at h2; cases h2; rfl
    obtain ⟨u, hu, rv⟩ := r.get ha
    have hp : ps[i]? = some y := by
      rw [← S.pre, List.getElem?_take_of_lt (by omega)]; exact h1
    have ndP : ps.Nodup := by rw [← S.pre]; exact S.nd.sublist (List.take_sublist _ _)
    refine ⟨u, rv, ?_⟩
    rcases S.par y (List.mem_of_getElem? hp) with k | k
    · exact .inl ⟨k, bindL_get ndP hp hu k⟩
    · obtain ⟨c, e⟩ := cell_has (n := s.heap.objs.size + 1) k
      refine .inr ⟨.inl k, c, e, ?_⟩
      have q := x.cell y c e
      rw [bindC_get ndP hp hu (by show scope.names.lookup y ≠ _; rw [k]; decide)] at q
      exact q
  · exact e0.hok.fresh (Nat.le_of_lt (x.above y c (PySem.mem_of_lookup h)))
  · unfold start
    show _ = N.length
    rw [List.length_append, List.length_map, List.length_replicate]
    omega

/-- THE RULE: a def (or a method) of the text, by its body. The body's reading t is chosen for each entry; it is run at the parameters' values -/
theorem fn_of {CX : CXT} {P : Program} {w : World} {K : PySem.W.Frag} {mg : Str → Option Value} {base : Heap} {k : Nat} {f : Addr} {name qual : Str} {params : Arguments} {body : List Stmt} {scope : Scope} {dV kV doc pm cdv ct oc : Value} {an od : Option Addr}
    {osl : Array (Option Value)} {N ps : List Str} {sp : Sp} (lk : K.lookup f = some ⟨oc, od, .func (PySem.W.fnOf name qual params body scope dV kV doc pm an cdv ct), osl⟩) (hcd : PySem.W.codeIn K cdv qual = true) (S : FnScope N ps scope)
    (len : ∀ vs H Q E, sp vs H Q E → vs.length = ps.length)
    (hbody : ∀ (A : Around) (outer : List Env) (s : Shared) (H : Hp) (vs : List V) (Q : VK) (E : XK), Room k (A.deeper (envOfC qual scope s.heap.objs.size f cdv)) → sp vs H Q E →
      ∃ t, PSs (cxOf CX P w K mg base N qual scope f cdv A outer s H E) body t ∧ t { nx := fun _ H' => Q .non H', rt := Q } (start N vs) H) :
    FnOk P w K mg base CX (k + 1) f (PySem.W.fnOf name qual params body scope dV kV doc pm an cdv ct) ps sp := by
  refine ⟨len, fun A outer s H args us vs Q E hr e0 hb r hsp => ?_⟩
  have hl := len _ _ _ _ hsp
  have KX : K.In s.heap := e0.mod.kin.keeps fun b o e => (e0.bs b o e).1
  have lim : s.heap.NoLimit := e0.mod.nolimit.keeps fun b o e => (e0.bs b o e).1
  have hkind : ∀ y ∈ ps.zip us, scope.names.lookup y.1 = some .local ∨ (scope.names.lookup y.1 = some .cell ∧ ((cellsFrom (s.heap.objs.size + 1) scope.names []).lookup y.1).isSome = true) := fun ⟨n, v⟩ hy => by
    rcases S.par n (List.of_mem_zip hy).1 with q | q
    · exact .inl q
    · exact .inr ⟨q, PySem.W.cellsFrom_some _ _ _ (.inl q)⟩
  refine codeAny_call_function hr.depth (KX _ _ lk) rfl S.co S.gen rfl (PySem.W.codeRec_of KX hcd) (hb _ _ _ _ ?_)
  refine wpAny_newFunctionEnv_cells S.kind hkind fun env he s1 x => ?_
  subst he
  refine ⟨lim.keeps x.toInCall.keep, codeAny_func ?_⟩
  obtain ⟨t, ht, hq⟩ := hbody A outer s H vs Q E (hr.deeper _) hsp
  have I : Inv (cxOf CX P w K mg base N qual scope f cdv A outer s H E) [] (start N vs) H s1 := inv_start S hr.hd e0 hl r x
  refine wpAny_mono (ht [] s1 (start N vs) H _ I hq) (fun fl s' hs => ?_) fun e s' hs => hs
  have fin : ∀ {σ' : St} {H' : Hp} {v : V} {u : Value}, Inv (cxOf CX P w K mg base N qual scope f cdv A outer s H E) [] σ' H' s' → RelV v u → Q v H' → CE outer P w H s Q u s' :=
    fun {σ' H' v u} J rv q => ⟨v, H', J.os, J.bare, J.base, J.hok, rv, q⟩
  cases fl with
  | ret u =>
    obtain ⟨v, σ', H', J, rv, q⟩ := hs
    exact fin J rv q
  | next =>
    obtain ⟨σ', H', J, q⟩ := hs
    exact fin (v := V.non) (u := Value.none) J rfl q
  | brk =>
    obtain ⟨_, _, _, q⟩ := hs
    exact False.elim q
  | cont =>
    obtain ⟨_, _, _, q⟩ := hs
    exact False.elim q
end L2

namespace L2
open PySem PySem.Spec PyProof.Rows
section
variable {X : Cx} {x : Str} {p pos : Pos} {e : Expr} {es : List Expr} {t : TA} {id T : String} {r : List V → Hp → VK → Prop}

def tCB (r : List V → Hp → VK → Prop) (t : TA) : TE := fun σ H Q => t σ H fun vs H1 => r vs H1 Q
/-- f(e, ..), f a built-in function -/
theorem pe_callB (hc : CallR X (.builtin id) r) (hg : Gl X x) (hm : X.mg x = none) (hv : bootBuiltins x = some (.builtin id)) (ha : PA X (e :: es) t) (hn : x ≠ "__name__" := by decide) (hdb : (x == ("__debug__" : Str)) = false := by decide)
    (he : starEach (e :: es) X.env = (false, eval e X.env) :: starEach es X.env := by rfl) (hpl : (backTo pos (starEach es X.env)).any (·.1) = false := by rfl) : PE X (.Call (.Name x p) (e :: es) [] pos) (tCB r t) := by
  intro pins s σ H Q I h
  refine wpAny_Call_Name_kw (ld_blt I hg hm hv ?_ hn hdb)
  exact PyProof.Rows.callWith_builtin1 (thn (ha pos pins s σ H _ I h) fun us s1 ⟨vs, H1, I1, r1, q1⟩ => hc pins s1 σ H1 vs us Q I1 r1 q1) he hpl
/-- T(e, ..), T a built-in type -/
theorem pe_callTy (hc : CallR X (.type T) r) (hg : Gl X x) (hm : X.mg x = none) (hv : bootBuiltins x = some (.type T)) (ha : PA X (e :: es) t) (hn : x ≠ "__name__" := by decide) (hdb : (x == ("__debug__" : Str)) = false := by decide)
    (he : starEach (e :: es) X.env = (false, eval e X.env) :: starEach es X.env := by rfl) (hpl : (backTo pos (starEach es X.env)).any (·.1) = false := by rfl) : PE X (.Call (.Name x p) (e :: es) [] pos) (tCB r t) := by
  intro pins s σ H Q I h
  refine wpAny_Call_Name_kw (ld_blt I hg hm hv ?_ hn hdb)
  exact PyProof.Rows.callWith_type1 (thn (ha pos pins s σ H _ I h) fun us s1 ⟨vs, H1, I1, r1, q1⟩ => hc pins s1 σ H1 vs us Q I1 r1 q1) he hpl
end
end L2

namespace HT
open PySem PyProof.Rows

section
open PySem.SeqAt
open PySem.AutoSeq1 (wpAny_loadPart')
open PySem.MeetsSeq PySem.MeetsSeq2 PySem.MeetsSeq3

end

section
variable {prog : Program} {w : World} {A : Around} {E : Value → Shared → Prop} {s : Shared}

/-! ### t[a:b], not the whole -/
/-- a slice's bound as a place among n (d where it is left out) -/
def sIx (n d : Nat) : Option Int → Nat
  | none => d
  | some v => if v < 0 then (v + (n : Int)).toNat else min v.toNat n
theorem sIx_nat (n d k : Nat) : sIx n d (some (k : Int)) = min k n := by
  show (if (k : Int) < 0 then ((k : Int) + (n : Int)).toNat else min (k : Int).toNat n) = min k n
  rw [if_neg (by omega), Int.toNat_natCast]
end
end HT

namespace L2
open PySem PySem.Spec PyProof.Rows

/-! ### the parts of a slice -/
abbrev TO := St → Hp → (Option Int → Hp → Prop) → Prop
/-- a slice's part (left out, or an int) -/
def PO (X : Cx) (e : Option Expr) (t : TO) : Prop :=
  ∀ (pins : List (Addr × Obj)) (s : Shared) (σ : St) (H : Hp) (Q : Option Int → Hp → Prop), Inv X pins σ H s → t σ H Q →
    wpAny (model X.prog X.w) X.A (evalPart e X.env) (fun u s' => ∃ o H', Inv X pins σ H' s' ∧ IsPart u o ∧ Q o H') X.xe s
def tNoPart : TO := fun _ H Q => Q none H
theorem intsAre_of {ns : List Int} : ∀ {us : List Value}, Vals (ns.map V.int) us → IntsAre us ns := by
  induction ns with
  | nil => intro us r; rw [List.map_nil] at r; cases r; exact .nil
  | cons n ns ih =>
    intro us r
    rw [List.map_cons] at r
    cases r with
    | cons r1 r2 =>
      obtain ⟨t, e⟩ := r1
      subst e
      exact .cons n t (ih r2)

section
variable {X : Cx} {e : Expr} {te : TE} {lo hi : Option Expr} {tl th : TO} {pos p2 : Pos}

theorem po_none : PO X none tNoPart := by
  intro pins s σ H Q I h
  rw [evalPart_none]
  exact wpAny_pure ⟨none, H, I, .none, h⟩
/-- what a slice of a value is, by values: the slice object stands at sl -/
def SlR (X : Cx) (r : V → Option Int → Option Int → Hp → VK → Prop) : Prop :=
  ∀ (pins : List (Addr × Obj)) (s : Shared) (σ : St) (H : Hp) (x : V) (v vl vu : Value) (lo hi : Option Int) (sl : Addr) (Q : VK), Inv X pins σ H s → RelV x v → s.heap.IsSliceOf sl vl vu .none → IsPart vl lo → IsPart vu hi → r x lo hi H Q →
    ∃ T id, typeLookup (.type T) "__getitem__" = pure (some (.builtin id)) ∧ s.TypeIs v T ∧ wpAny (model X.prog X.w) X.A (getItem v (.ref sl)) (EP X pins σ Q) X.xe s
def tSl (r : V → Option Int → Option Int → Hp → VK → Prop) (te : TE) (tl th : TO) : TE := fun σ H Q => te σ H fun x H1 => tl σ H1 fun l H2 => th σ H2 fun u H3 => r x l u H3 Q
/-- a[lo:hi], any a -/
theorem pe_slice {r : V → Option Int → Option Int → Hp → VK → Prop} (hr : SlR X r) (he : PE X e te) (hl : PO X lo tl) (hu : PO X hi th) : PE X (.Subscript e (.Slice lo hi none p2) pos) (tSl r te tl th) := by
  intro pins s σ H Q I h
  refine Subscript_ (thn (he pins s σ H _ I h) fun v s1 ⟨x, H1, I1, r1, q1⟩ => ?_)
  refine wpAny_Slice (thn (hl pins s1 σ H1 _ I1 q1) fun vl s2 ⟨l, H2, I2, pl, q2⟩ => thn (hu pins s2 σ H2 _ I2 q2) fun vu s3 ⟨u, H3, I3, pu, q3⟩ => ?_)
  rw [evalPart_none]
  refine wpAny_pure ?_
  have I4 : Inv X pins σ H3 { s3 with heap := s3.heap.push { cls := .type "slice", data := .fields #[vl, vu, .none] } } := I3.kept (t' := s3.toks) fun b ob q => Heap.get?_push_of_some _ q
  obtain ⟨T, id, hT, ht, hg⟩ := hr pins { s3 with heap := s3.heap.push { cls := .type "slice", data := .fields #[vl, vu, .none] } } σ H3 x v vl vu l u s3.heap.objs.size Q I4 r1 (Heap.IsSliceOf.new ..) pl pu q3
  show wpAny (model X.prog X.w) X.A (subscriptTail e (.Slice lo hi none p2) v (.ref s3.heap.objs.size)) (EP X pins σ Q) X.xe { s3 with heap := s3.heap.push { cls := .type "slice", data := .fields #[vl, vu, .none] } }
  exact tail_any (ops := [.ref s3.heap.objs.size, v]) ht hT hg (by with_unfolding_all rfl)

/-- the items of xs[lo:hi] -/
def cutV (xs : List V) (lo hi : Option Int) : List V := (xs.drop (HT.sIx xs.length 0 lo)).take (HT.sIx xs.length xs.length hi - HT.sIx xs.length 0 lo)
theorem cutV_length (xs : List V) (lo hi : Option Int) : (cutV xs lo hi).length ≤ xs.length := by
  unfold cutV
  rw [List.length_take, List.length_drop]
  omega
/-! ### t < u, t + u -/
end
end L2

namespace L2
open PySem PySem.Spec PyProof.Rows

/-! ### places -/
/-- the place that an index of any sign means -/
def ixN (n : Nat) (i : Int) : Option Nat := if 0 ≤ i then (if i < n then some i.toNat else none) else if -(n : Int) ≤ i then some (i + n).toNat else none
def atI {α : Type} (xs : List α) (i : Int) : Option α := (ixN xs.length i).bind fun j => xs[j]?
theorem ixN_seq {n : Nat} {i : Int} {j : Nat} (h : ixN n i = some j) : seqIndex? i n = some j ∧ j < n ∧ -(n : Int) ≤ i ∧ i < n := by
  unfold ixN at h
  by_cases h0 : 0 ≤ i
  · rw [if_pos h0] at h
    by_cases h1 : i < n
    · rw [if_pos h1] at h
      have e : i.toNat = j := Option.some.inj h
      exact ⟨by rw [seqIndex_of h0 h1, e], by omega, by omega, h1⟩
    · rw [if_neg h1] at h; cases h
  · rw [if_neg h0] at h
    by_cases h1 : -(n : Int) ≤ i
    · rw [if_pos h1] at h
      have e : (i + n).toNat = j := Option.some.inj h
      exact ⟨by rw [seqIndex_neg (by omega) h1, e], by omega, h1, by omega⟩
    · rw [if_neg h1] at h; cases h
theorem atI_get {α : Type} {xs : List α} {i : Int} {v : α} (h : atI xs i = some v) : ∃ j, seqIndex? i xs.length = some j ∧ xs[j]? = some v ∧ j < xs.length ∧ -(xs.length : Int) ≤ i ∧ i < xs.length := by
  unfold atI at h
  cases e : ixN xs.length i with
  | none => rw [e] at h; cases h
  | some j =>
    rw [e] at h
    obtain ⟨h1, h2, h3, h4⟩ := ixN_seq e
    exact ⟨j, h1, h, h2, h3, h4⟩
theorem atI_nat {α : Type} {xs : List α} {j : Nat} {v : α} (h : xs[j]? = some v) : atI xs (j : Int) = some v := by
  have hj : j < xs.length := (List.getElem?_eq_some_iff.mp h).1
  have e : ixN xs.length (j : Int) = some j := by
    unfold ixN
    rw [if_pos (by omega), if_pos (by omega)]; simp
  unfold atI; rw [e]; exact h
theorem atI_last {α : Type} (xs : List α) (v : α) : atI (xs ++ [v]) (-1) = some v := by
  have hl : (xs ++ [v]).length = xs.length + 1 := by simp
  have e : ixN (xs ++ [v]).length (-1) = some xs.length := by
    unfold ixN
    rw [hl, if_neg (by decide), if_pos (by omega)]
    congr 1
    omega
  unfold atI
  rw [e]
  show (xs ++ [v])[xs.length]? = some v
  simp

/-! ### what may be subscripted -/
/-- what stands as an index of a plain subscript -/
def PlainIx (b : Expr) : Prop := ∀ o i, subscripted b false o i = operate [o, i] (getItem o i)
/-- a subscript by values -/
def IxR (X : Cx) (r : R2) : Prop :=
  ∀ (value slice : Expr) (pins : List (Addr × Obj)) (s : Shared) (σ : St) (H : Hp) (x y : V) (v u : Value) (Q : VK), Inv X pins σ H s → RelV x v → RelV y u → r x y H Q →
    subscripted slice false v u = operate [v, u] (getItem v u) → wpAny (model X.prog X.w) X.A (subscriptTail value slice v u) (EP X pins σ Q) X.xe s
/-- a call of a builtin's method by values: the receiver, the arguments -/
def MtR (X : Cx) (id : String) (r : V → List V → Hp → VK → Prop) : Prop :=
  ∀ (pins : List (Addr × Obj)) (s : Shared) (σ : St) (H : Hp) (x : V) (xs : List V) (v : Value) (us : List Value) (Q : VK), Inv X pins σ H s → RelV x v → Vals xs us → r x xs H Q →
    wpAny (model X.prog X.w) X.A (call (.builtin id) (v :: us)) (EP X pins σ Q) X.xe s
section
variable {X : Cx} {a b : Expr} {ta tb : TE} {pos : Pos}
/-- a[b] -/
theorem pe_ix {r : R2} (hr : IxR X r) (ha : PE X a ta) (hb : PE X b tb) (hs : PlainIx b) : PE X (.Subscript a b pos) (tOp r ta tb) := by
  intro pins s σ H Q I h
  exact Subscript_ (binT ha hb I h fun v u s2 x y H2 I2 rx ry q => hr a b pins s2 σ H2 x y v u Q I2 rx ry q (hs _ _))

def rIxL (K : PySem.W.Frag) : R2 := fun x y H Q => ∃ p xs i v, x = .ref p ∧ y = .int i ∧ SqL K H p xs ∧ atI xs i = some v ∧ Q v H
def rIxT (K : PySem.W.Frag) : R2 := fun x y H Q => ∃ p xs i v, x = .ref p ∧ y = .int i ∧ SqT K H p xs ∧ atI xs i = some v ∧ Q v H
theorem ix_list : IxR X (rIxL X.K) := by
  intro value slice pins s σ H x y v u Q I rx ry h hs
  obtain ⟨p, xs, i, z, rfl, rfl, hq, he, q⟩ := h
  cases rx
  obtain ⟨t, rfl⟩ := ry
  obtain ⟨its, r, pl, hz⟩ := I.list hq
  obtain ⟨j, h1, h2, h3, h4, h5⟩ := atI_get he
  obtain ⟨w, ew, rw'⟩ := r.get h2
  have hl := r.length
  have hn := line63
  have fin : EP X pins σ Q w s := ⟨z, H, I, rw', q⟩
  by_cases h0 : 0 ≤ i
  · have hj : i.toNat = j := by
      rw [seqIndex_of h0 h5] at h1
      exact Option.some.inj h1
    exact item_listR pl.isList h0 (by omega) (by rw [hj]; simpa using ew) fin hs
  · have hj : (i + (its.toArray.size : Int)).toNat = j := by
      rw [seqIndex_neg (by omega) h4] at h1
      rw [List.size_toArray, ← hl]
      exact Option.some.inj h1
    exact subscriptTail_builtinR (x := w) pl.isList.typeIs slot_list_getitem.lookup
      (wpAny_getItem_list_neg (Q := fun r s' => r = w ∧ EP X pins σ Q r s') pl.isList (by omega) (by rw [List.size_toArray] <;> omega) (by omega) (by rw [hj]; simpa using ew) ⟨rfl, fin⟩) hs
theorem ix_tup : IxR X (rIxT X.K) := by
  intro value slice pins s σ H x y v u Q I rx ry h hs
  obtain ⟨p, xs, i, z, rfl, rfl, hq, he, q⟩ := h
  cases rx
  obtain ⟨t, rfl⟩ := ry
  obtain ⟨its, r, pl, hz⟩ := I.tuple hq
  obtain ⟨j, h1, h2, h3, h4, h5⟩ := atI_get he
  obtain ⟨w, ew, rw'⟩ := r.get h2
  have hl := r.length
  have hn := line63
  have fin : EP X pins σ Q w s := ⟨z, H, I, rw', q⟩
  exact subscriptTail_builtinR (x := w) pl.typeIs slot_tuple_getitem.lookup
    (getItem_tuple (j := j) (Q := fun r s' => r = w ∧ EP X pins σ Q r s') pl (by omega) (by omega) (by rw [List.size_toArray, ← hl]; exact h1) (by simpa using ew) ⟨rfl, fin⟩) hs
/-! ### xs[i] = v, any sign -/
/-- the list's object behind a store -/
theorem mapSeq_set (its : List Value) (n j : Nat) (u : Value) : Obj.mapSeq (·.setIfInBounds j u) { cls := .type "list", data := .seq its.toArray n } = { cls := .type "list", data := .seq (its.set j u).toArray n } := by
  simp [Obj.mapSeq]
theorem Inv.lst {pins : List (Addr × Obj)} {σ : St} {H : Hp} {s : Shared} {p : Addr} {xs : List V} (I : Inv X pins σ H s) (h : H p = some (.lst xs)) :
    ∃ (its : List Value) (n : Nat), Vals xs its ∧ s.heap.get? p = some { cls := .type "list", data := .seq its.toArray n } ∧ xs.length ≤ sizeLine := by
  obtain ⟨z, its, n, r, e⟩ := I.hok p _ h
  exact ⟨its, n, r, e, z⟩
/-- the list at p is written by an update of its object -/
theorem Inv.lstUpd {pins : List (Addr × Obj)} {σ : St} {H : Hp} {s : Shared} {p : Addr} {xs ys : List V} {its its' : List Value} {n n' : Nat} {f : Obj → Obj} (I : Inv X pins σ H s) (h : H p = some (.lst xs))
    (ho : s.heap.get? p = some { cls := .type "list", data := .seq its.toArray n }) (hf : f { cls := .type "list", data := .seq its.toArray n } = { cls := .type "list", data := .seq its'.toArray n' }) (r : Vals ys its') (hz : ys.length ≤ sizeLine) (t : Nat) :
    Inv X pins σ (upd H p (.lst ys)) { s with heap := s.heap.update p f, toks := t } := by
  have e : (s.heap.update p f).get? p = some { cls := .type "list", data := .seq its'.toArray n' } := by
    rw [Heap.get?_update_self f ho (by rw [hf] <;> rfl), hf]
  refine I.write (x := p) (e := p) (by rw [h]; trivial) (.inl rfl) (fun b u hb q => (Heap.get?_update_other _ _ (Ne.symm hb)).trans q) ⟨_, e⟩ ?_
  exact ⟨hz, its', n', r, e⟩
def rSetL : V → V → V → Hp → (Hp → Prop) → Prop := fun o i v H Q => ∃ p xs k j, o = .ref p ∧ i = .int k ∧ H p = some (.lst xs) ∧ ixN xs.length k = some j ∧ Q (upd H p (.lst (xs.set j v)))
theorem set_list : PSet X rSetL := by
  intro pins s σ H o i v ov iv u Q I ro ri rv h
  obtain ⟨p, xs, k, j, rfl, rfl, hp, hj, q⟩ := h
  cases ro
  obtain ⟨t, rfl⟩ := ri
  obtain ⟨its, n, r, ho, hz⟩ := I.lst hp
  obtain ⟨h1, h2, h3, h4⟩ := ixN_seq hj
  have hl := r.length
  have hn := line63
  have I' : Inv X pins σ (upd H p (.lst (xs.set j v))) { s with heap := s.heap.update p (Obj.mapSeq (·.setIfInBounds j u)) } :=
    I.lstUpd hp ho (mapSeq_set its n j u) (r.set rv j) (by rw [List.length_set]; exact hz) s.toks
  by_cases h0 : 0 ≤ k
  · have hk : k.toNat = j := by
      rw [seqIndex_of h0 h4] at h1
      exact Option.some.inj h1
    exact PySem.W.ki_setAt ho h0 (by omega) (by rw [List.size_toArray, ← hl]; exact h4) (by rw [hk]; exact ⟨_, I', q⟩)
  · have hk : (k + (its.toArray.size : Int)).toNat = j := by
      rw [seqIndex_neg (by omega) h3] at h1
      rw [List.size_toArray, ← hl]
      exact Option.some.inj h1
    exact PySem.W.ki_setBack ho (by omega) (by rw [List.size_toArray, ← hl]; exact h3) (by omega) (by rw [hk]; exact ⟨_, I', q⟩)

/-! ### slices -/
theorem slice_bounds (lo hi : Option Int) (n : Nat) : (sliceBounds lo hi none n).1 = ((HT.sIx n 0 lo : Nat) : Int) ∧ (sliceBounds lo hi none n).2.1 = ((HT.sIx n n hi : Nat) : Int) ∧ (sliceBounds lo hi none n).2.2 = 1 := by
  refine ⟨?_, ?_, rfl⟩
  · cases lo with
    | none => simp [sliceBounds, HT.sIx]
    | some i =>
      simp only [sliceBounds, HT.sIx, Option.getD_none, show (1 : Int) > 0 by decide, if_true]
      by_cases h : i < 0
      · simp only [h, if_true] <;> omega
      · simp only [h, if_false] <;> omega
  · cases hi with
    | none => simp [sliceBounds, HT.sIx]
    | some i =>
      simp only [sliceBounds, HT.sIx, Option.getD_none, show (1 : Int) > 0 by decide, if_true]
      by_cases h : i < 0
      · simp only [h, if_true] <;> omega
      · simp only [h, if_false] <;> omega
theorem slicePick_cut (its : List Value) (lo hi : Option Int) : slicePick its.toArray lo hi none = ((its.drop (HT.sIx its.length 0 lo)).take (HT.sIx its.length its.length hi - HT.sIx its.length 0 lo)).toArray := by
  obtain ⟨h1, h2, h3⟩ := slice_bounds lo hi its.toArray.size
  unfold slicePick
  rw [h1, h2, h3]
  simp only [sliceRange_one, pick_run, List.size_toArray] <;> rfl
/-- xs[lo:hi] of a list: a new list -/
def rSlL (K : PySem.W.Frag) : V → Option Int → Option Int → Hp → VK → Prop := fun x lo hi H Q => ∃ a xs, x = .ref a ∧ SqL K H a xs ∧ ∀ p, H p = none → Q (.ref p) (upd H p (.lst (cutV xs lo hi)))
theorem sl_list : SlR X (rSlL X.K) := by
  intro pins s σ H x v vl vu lo hi sl Q I rx hs pl pu h
  obtain ⟨a, xs, rfl, hx, q⟩ := h
  cases rx
  obtain ⟨its, r, ht, hz⟩ := I.list hx
  have hlen := r.length
  refine ⟨"list", _, slot_list_getitem.lookup, ht.isList.typeIs, ?_⟩
  refine wpAny_getItem_list_slice ht.isList hs pl pu .none (by simp) ?_ (by rw [List.size_toArray] <;> omega)
  rw [slicePick_cut, ← hlen]
  refine ⟨.ref s.heap.objs.size, _, I.laid (t' := s.toks) (o := .lst (cutV xs lo hi)) (fun b ob q => Heap.get?_push_of_some _ q) (Nat.le_refl _) ?_, rfl, q _ (I.hok.fresh (Nat.le_refl _))⟩
  exact ⟨Nat.le_trans (cutV_length xs lo hi) hz, _, 0, (r.drop (HT.sIx xs.length 0 lo)).take (HT.sIx xs.length xs.length hi - HT.sIx xs.length 0 lo), Heap.get?_push_size _ rfl⟩

/-! ### in, not in: flat items -/
/-! ### len, list(x), tuple(x) of any list or tuple that is read -/
theorem call_len_seq : CallR X (.builtin "len") (fun xs H Q => ∃ p ys, xs = [.ref p] ∧ (SqL X.K H p ys ∨ SqT X.K H p ys) ∧ Q (.int ys.length) H) := by
  intro pins s σ H xs us Q I r h
  obtain ⟨p, ys, rfl, hq, q⟩ := h
  obtain ⟨u, rfl, rx⟩ := vals1 r
  cases rx
  have hn := line63
  rcases hq with hq | hq
  · obtain ⟨its, r', pl, hz⟩ := I.list hq
    have hlen := r'.length
    exact Calls.call_len_list pl.isList (by simp only [List.size_toArray] <;> omega) ⟨.int ys.length, H, I.tok _, ⟨s.toks + 1, by rw [List.size_toArray, hlen]⟩, q⟩
  · obtain ⟨its, r', pl, hz⟩ := I.tuple hq
    have hlen := r'.length
    exact len_tuple pl (by simp only [List.size_toArray] <;> omega) ⟨.int ys.length, H, I.tok _, ⟨s.toks + 1, by rw [List.size_toArray, hlen]⟩, q⟩
theorem CallR.or {f : Value} {r r' : List V → Hp → VK → Prop} (h : CallR X f r) (h' : CallR X f r') : CallR X f (fun xs H Q => r xs H Q ∨ r' xs H Q) := by
  intro pins s σ H xs us Q I rs q
  rcases q with q | q
  · exact h pins s σ H xs us Q I rs q
  · exact h' pins s σ H xs us Q I rs q
theorem call_list_of : CallR X (.type "list") (fun xs H Q => ∃ p ys, xs = [.ref p] ∧ (SqL X.K H p ys ∨ SqT X.K H p ys) ∧ ∀ l, H l = none → Q (.ref l) (upd H l (.lst ys))) := by
  intro pins s σ H xs us Q I r h
  obtain ⟨p, ys, rfl, hq, q⟩ := h
  obtain ⟨u, rfl, rx⟩ := vals1 r
  cases rx
  have fin : ∀ (its : List Value), Vals ys its → ys.length ≤ sizeLine → ∀ (h' : Heap) (c' : Nat), (∀ b o', s.heap.get? b = some o' → h'.get? b = some o') →
      h'.get? s.heap.objs.size = some { cls := .type "list", dict := none, data := .seq its.toArray c', slots := #[] } → EP X pins σ Q (.ref s.heap.objs.size) { s with heap := h' } := fun its r' hz h' c' kp e =>
    ⟨.ref s.heap.objs.size, _, I.laid (t' := s.toks) kp (Nat.le_refl _) (show ObjOk X.prog X.w _ h' _ (.lst ys) from ⟨hz, its, c', r', e⟩), rfl, q _ (I.hok.fresh (Nat.le_refl _))⟩
  rcases hq with hq | hq
  · obtain ⟨its, r', pl, hz⟩ := I.list hq
    have hlen := r'.length
    obtain ⟨o, ho, hc, n, hd⟩ := pl.isList
    exact call_list_seq p (.inl rfl) ho hc hd (fun h' c' kp e => fin its r' hz h' c' kp e) (by simp only [List.size_toArray] <;> omega)
  · obtain ⟨its, r', pl, hz⟩ := I.tuple hq
    have hlen := r'.length
    obtain ⟨o, ho, hc, n, hd⟩ := pl
    exact call_list_seq p (.inr rfl) ho hc hd (fun h' c' kp e => fin its r' hz h' c' kp e) (by simp only [List.size_toArray] <;> omega)
/-! ### the call of a builtin's method: o.m(..) -/
/-- the value is of that builtin type -/
def tyV (K : PySem.W.Frag) (T : String) (x : V) (H : Hp) : Prop := match x with
  | .str _ => T = "str"
  | .int _ => T = "int"
  | .ref p => (T = "list" ∧ ∃ xs, SqL K H p xs) ∨ (T = "tuple" ∧ ∃ o, K.lookup p = some o ∧ o.cls = .type "tuple" ∧ o.dict = none) ∨
      (T = "dict" ∧ ((∃ kvs, H p = some (.dK kvs)) ∨ ∃ kvs, H p = some (.dT kvs))) ∨ (T = "set" ∧ ∃ S n, H p = some (.set S n))
  | _ => False
theorem tyV_is {pins : List (Addr × Obj)} {σ : St} {H : Hp} {s : Shared} {T : String} {x : V} {v : Value} (I : Inv X pins σ H s) (r : RelV x v) (ty : tyV X.K T x H) :
    s.TypeIs v T ∧ ∀ a, v = .ref a → ∃ ob, s.heap.get? a = some ob ∧ ob.dict = none := by
  cases x with
  | str z =>
    obtain ⟨t, rfl⟩ := r
    cases (show T = "str" from ty)
    exact ⟨typeIs_str s z t, fun _ e => nomatch e⟩
  | int i =>
    obtain ⟨t, rfl⟩ := r
    cases (show T = "int" from ty)
    exact ⟨typeIs_int s i t, fun _ e => nomatch e⟩
  | ref p =>
    cases r
    rcases ty with ⟨rfl, xs, hq⟩ | ⟨rfl, o, hk, hc, hd⟩ | ⟨rfl, hk⟩ | ⟨rfl, S, n, hk⟩
    · obtain ⟨its, _, pl, _⟩ := I.list hq
      refine ⟨pl.isList.typeIs, fun a e => ?_⟩
      cases e
      obtain ⟨o, n, e, c, hd, _⟩ := pl
      exact ⟨o, e, hd⟩
    · refine ⟨⟨o, I.kIn p o hk, hc⟩, fun a e => ?_⟩
      cases e
      exact ⟨o, I.kIn _ o hk, hd⟩
    · have z : ∃ o, s.heap.get? p = some o ∧ o.ExactDict := by
        rcases hk with ⟨kvs, hk⟩ | ⟨kvs, hk⟩
        · obtain ⟨_, _, _, _, o, _, _, e, ex, _⟩ := I.hok p _ hk
          exact ⟨o, e, ex⟩
        · obtain ⟨_, _, _, _, o, _, _, e, ex, _⟩ := I.hok p _ hk
          exact ⟨o, e, ex⟩
      obtain ⟨o, e, ex⟩ := z
      refine ⟨⟨o, e, ex.1⟩, fun a e2 => ?_⟩
      cases e2
      exact ⟨o, e, ex.2.1⟩
    · obtain ⟨o, _, _, _, e, ex, _⟩ := I.hok p _ hk
      refine ⟨⟨o, e, ex.1⟩, fun a e2 => ?_⟩
      cases e2
      exact ⟨o, e, ex.2.1⟩
  | _ => exact False.elim ty
def tBM (K : PySem.W.Frag) (T : String) (r : V → List V → Hp → VK → Prop) (to : TE) (t : TA) : TE := fun σ H Q => to σ H fun x H1 => tyV K T x H1 ∧ t σ H1 fun xs H2 => r x xs H2 Q
variable {o e : Expr} {es : List Expr} {to : TE} {t : TA} {name : Str} {apos cpos : Pos} {T id : String} {r : V → List V → Hp → VK → Prop}
theorem pe_bm (pa : PlainAttrs T) (slot : Slot T name id) (hty : typeOf (.builtin id) = pure (.type "method_descriptor")) (hm : MtR X id r) (ho : PE X o to) (ha : PA X (e :: es) t)
    (hbase : attributeBase o name X.env (eval o X.env) = eval o X.env := by rfl)
    (hfew : ((backTo cpos (starEach (e :: es) X.env)).all (fun x => !x.1) && (backToKw cpos (keywordEach [] X.env)).all (fun x => x.1.isSome)
      && decide ((e :: es).length + ([] : List Keyword).length + (if ([] : List Keyword).isEmpty then 0 else 1) < 30)) = true := by rfl)
    (hline : (apos.endLine == cpos.line) = true := by rfl) (hs : starEach (e :: es) X.env = (false, eval e X.env) :: starEach es X.env := by rfl) (hplain : (backTo cpos (starEach es X.env)).any (·.1) = false := by rfl) :
    PE X (.Call (.Attribute o name apos) (e :: es) [] cpos) (tBM X.K T r to t) := by
  intro pins s σ H Q I h
  refine wpAny_Call_method_late hbase hfew hline rfl (thn (ho pins s σ H _ I h) fun v s1 ⟨x, H1, I1, r1, ty, q1⟩ => ?_)
  obtain ⟨h1, h2⟩ := tyV_is I1 r1 ty
  refine ⟨T, id, pa, slot, hty, h1, h2, ?_⟩
  have hA := ha cpos pins s1 σ H1 _ I1 q1
  rw [hs] at hA ⊢
  refine Calls.callWith_builtin (by show (false || (backTo cpos (starEach es X.env)).any (·.1)) = false; rw [hplain] <;> rfl) (Calls.evalArgs_plain ?_)
  exact thn hA fun us s2 ⟨vs, H2, I2, r2, q2⟩ => hm pins s2 σ H2 x vs v us Q I2 r1 r2 q2
/- xs.append(e), list.index on a module's tuple .. are MtR facts of 06m -/
end
end L2

namespace L2
open PySem PySem.Spec PyProof.Rows

def MtM (X : Cx) (id : String) (r : V → List V → Hp → VK → Prop) : Prop :=
  ∀ (pins : List (Addr × Obj)) (s : Shared) (σ : St) (H : Hp) (x : V) (xs : List V) (v : Value) (us : List Value) (Q : VK), Inv X pins σ H s → RelV x v → Vals xs us → r x xs H Q →
    wpAny (model X.prog X.w) X.A (call (.builtin id) (v :: us)) (EP X pins σ Q) X.xe s

/-! ### lists of values -/
theorem Vals.one : ∀ {x : V} {us : List Value}, Vals [x] us → ∃ u, us = [u] ∧ RelV x u
  | _, _, .cons r .nil => ⟨_, rfl, r⟩
theorem Vals.two : ∀ {x y : V} {us : List Value}, Vals [x, y] us → ∃ u v, us = [u, v] ∧ RelV x u ∧ RelV y v
  | _, _, _, .cons r (.cons q .nil) => ⟨_, _, rfl, r, q⟩
theorem Vals.rep {xs : List V} {us : List Value} (h : Vals xs us) : ∀ k : Nat, Vals (List.replicate k xs).flatten (List.replicate k us).flatten
  | 0 => .nil
  | k + 1 => by
    rw [List.replicate_succ, List.replicate_succ, List.flatten_cons, List.flatten_cons]
    exact Vals.append h (Vals.rep h k)
theorem foldl_rep (its : List Value) : ∀ (k : Nat) (acc : List Value),
    List.foldl (fun x1 x2 => x1 ++ x2) acc.toArray (List.replicate k its.toArray) = (acc ++ (List.replicate k its).flatten).toArray
  | 0, acc => by simp
  | k + 1, acc => by
    have e : acc.toArray ++ its.toArray = (acc ++ its).toArray := by simp
    have e2 : (acc ++ its) ++ (List.replicate k its).flatten = acc ++ (List.replicate (k + 1) its).flatten := by
      rw [List.replicate_succ, List.flatten_cons, List.append_assoc]
    rw [← e2, ← foldl_rep its k (acc ++ its), ← e, List.replicate_succ, List.foldl_cons]

section
variable {X : Cx} {pins : List (Addr × Obj)} {σ : St} {H : Hp} {s : Shared} {l b : Addr} {xs ys zs : List V}

/-! ### the two steps: a tracked list is rewritten, a new list is laid -/
theorem Inv.lset {its its' : List Value} {n : Nat} {f : Array Value → Array Value} {t' : Nat} (I : Inv X pins σ H s) (hH : H l = some (.lst xs))
    (e : s.heap.get? l = some { cls := .type "list", data := .seq its.toArray n }) (hf : f its.toArray = its'.toArray) (hv : Vals ys its') (hz : ys.length ≤ sizeLine) :
    Inv X pins σ (upd H l (.lst ys)) { s with heap := s.heap.update l (Obj.mapSeq f), toks := t' } := by
  have q := PySem.IsL.update e f
  rw [hf] at q
  refine I.write (x := l) (e := l) (by rw [hH]; exact trivial) (.inl rfl) (fun b' u hb hu => (Heap.get?_update_other s.heap (Obj.mapSeq f) (Ne.symm hb)).trans hu) ⟨_, q⟩ ?_
  exact ⟨hz, its', _, hv, q⟩
theorem Inv.lnew {its : List Value} {t' : Nat} (I : Inv X pins σ H s) (hv : Vals ys its) (hz : ys.length ≤ sizeLine) :
    Inv X pins σ (upd H s.heap.objs.size (.lst ys)) { s with heap := s.heap.push { cls := .type "list", data := .seq its.toArray }, toks := t' } :=
  I.laid (fun _ _ q => Heap.get?_push_of_some _ q) (Nat.le_refl _) ⟨hz, its, 0, hv, Heap.get?_push_size _ rfl⟩
theorem Inv.fresh (I : Inv X pins σ H s) : H s.heap.objs.size = none := I.hok.fresh (Nat.le_refl _)
theorem Inv.lstM (I : Inv X pins σ H s) (hH : H l = some (.lst xs)) : xs.length ≤ sizeLine ∧ ∃ (its : List Value) (n : Nat), Vals xs its ∧ xs.length = its.length ∧ s.heap.get? l = some { cls := .type "list", data := .seq its.toArray n } := by
  obtain ⟨z, its, n, r, e⟩ := I.hok l _ hH
  exact ⟨z, its, n, r, r.length, e⟩

theorem notLongL {n : Nat} (h : n ≤ sizeLine) : Builtin.List.listTooLong n = false := by
  unfold Builtin.List.listTooLong
  exact decide_eq_false (by omega)
end

section
variable {X : Cx}

/-! ### methods -/
def rAppend : V → List V → Hp → VK → Prop := fun x vs H Q => ∃ l xs y, x = .ref l ∧ vs = [y] ∧ H l = some (.lst xs) ∧ xs.length < sizeLine ∧ Q .non (upd H l (.lst (xs ++ [y])))
theorem mt_append : MtM X "list.append" rAppend := by
  intro pins s σ H x vs v us Q I rx rv h
  obtain ⟨l, xs, y, rfl, rfl, hH, hz, q⟩ := h
  cases rx
  obtain ⟨u, rfl, ru⟩ := rv.one
  obtain ⟨z, its, n, r, hl, e⟩ := I.lstM hH
  refine call_meets F.slot_list_append ⟨_, e, rfl⟩ F.entry_list_append (F.args_list_append_2 _ _) (PySem.list_append l its.toArray n u (by rw [List.size_toArray]; omega)) ⟨e, ?_⟩
  refine ⟨.non, _, I.lset (its' := its ++ [u]) hH e (by simp) (r.append (.cons ru .nil)) ?_, rfl, q⟩
  rw [List.length_append, List.length_singleton]
  omega

def rExtend : V → List V → Hp → VK → Prop := fun x vs H Q => ∃ l b xs zs, x = .ref l ∧ vs = [.ref b] ∧ H l = some (.lst xs) ∧ H b = some (.lst zs) ∧ xs.length + zs.length ≤ sizeLine ∧ Q .non (upd H l (.lst (xs ++ zs)))
theorem mt_extend : MtM X "list.extend" rExtend := by
  intro pins s σ H x vs v us Q I rx rv h
  obtain ⟨l, b, xs, zs, rfl, rfl, hH, hB, hz, q⟩ := h
  cases rx
  obtain ⟨u, rfl, ru⟩ := rv.one
  cases ru
  obtain ⟨z, its, n, r, hl, e⟩ := I.lstM hH
  obtain ⟨z2, its2, n2, r2, hl2, e2⟩ := I.lstM hB
  have hsz : its.toArray.size + its2.toArray.size ≤ sizeLine := by rw [List.size_toArray, List.size_toArray]; omega
  have hlong : ¬ (!its.toArray.isEmpty && Builtin.List.listTooLong (its.toArray.size + its2.toArray.size)) = true := by
    rw [notLongL hsz, Bool.and_false]
    exact Bool.false_ne_true
  refine call_meets F.slot_list_extend ⟨_, e, rfl⟩ F.entry_list_extend (F.args_list_extend_2 _ _)
    (AutoSeq1.list_extend_list_list_0 l its.toArray n b its2.toArray n2 hlong (by rw [List.size_toArray]; omega) (by omega)) ⟨e, e2, ?_⟩
  refine ⟨.non, _, I.lset (its' := its ++ its2) hH e (by simp) (r.append r2) ?_, rfl, q⟩
  rw [List.length_append]
  omega

/-! ### list + list, list += list, list * int -/
def rCat : R2 := fun x y H Q => ∃ l b xs zs, x = .ref l ∧ y = .ref b ∧ H l = some (.lst xs) ∧ H b = some (.lst zs) ∧ xs.length + zs.length ≤ sizeLine ∧ ∀ p, H p = none → Q (.ref p) (upd H p (.lst (xs ++ zs)))
theorem op_cat : OpR X (binaryOp .Add) rCat := by
  intro pins s σ H x y v u Q I rx ry h
  obtain ⟨l, b, xs, zs, rfl, rfl, hH, hB, hz, q⟩ := h
  cases rx
  cases ry
  obtain ⟨z, its, n, r, hl, e⟩ := I.lstM hH
  obtain ⟨z2, its2, n2, r2, hl2, e2⟩ := I.lstM hB
  refine PySem.P.add_list e e2 ?_ (by rw [List.size_toArray, List.size_toArray]; omega)
  have ea : its.toArray ++ its2.toArray = (its ++ its2).toArray := by simp
  rw [ea]
  exact ⟨.ref _, _, I.lnew (t' := s.toks) (r.append r2) (by rw [List.length_append]; omega), rfl, q _ I.fresh⟩
/-- a list times an int (a negative one is nothing) -/
def rRep : R2 := fun x y H Q => ∃ l k xs, x = .ref l ∧ y = .int k ∧ H l = some (.lst xs) ∧ -(2 ^ 63) ≤ k ∧ k < 2 ^ 63 ∧ xs.length * k.toNat ≤ sizeLine ∧
  ∀ p, H p = none → Q (.ref p) (upd H p (.lst (List.replicate k.toNat xs).flatten))
theorem len_rep {α : Type} (xs : List α) (k : Nat) : (List.replicate k xs).flatten.length = k * xs.length := by
  induction k with
  | zero => simp
  | succ k ih => rw [List.replicate_succ, List.flatten_cons, List.length_append, ih, Nat.succ_mul, Nat.add_comm]
theorem op_rep : OpR X (binaryOp .Mult) rRep := by
  intro pins s σ H x y v u Q I rx ry h
  obtain ⟨l, k, xs, rfl, rfl, hH, h1, h2, hz, q⟩ := h
  cases rx
  obtain ⟨t, rfl⟩ := ry
  obtain ⟨z, its, n, r, hl, e⟩ := I.lstM hH
  have hlen : its.toArray.size * k.toNat ≤ sizeLine := by rw [List.size_toArray, ← hl]; exact hz
  have hcap : ¬ its.toArray.size * k.toNat > (2 ^ 63 - 1) / 8 := by
    have : (sizeLine : Nat) ≤ (2 ^ 63 - 1) / 8 := by decide
    omega
  have hfit : ¬ (!Builtin.List.listFitsIndex k) = true := by
    rw [fitsIndex_both h1 h2]
    exact Bool.false_ne_true
  have hlong : ¬ Builtin.List.listTooLong (its.toArray.size * k.toNat) = true := by
    rw [notLongL hlen]
    exact Bool.false_ne_true
  have hnew : List.foldl (fun x1 x2 => x1 ++ x2) #[] (List.replicate (if its.toArray.isEmpty = true then 0 else k.toNat) its.toArray) = (List.replicate k.toNat its).flatten.toArray := by
    have f0 : ∀ m : Nat, List.foldl (fun x1 x2 => x1 ++ x2) #[] (List.replicate m its.toArray) = (List.replicate m its).flatten.toArray := fun m => by
      have := foldl_rep its m []
      rw [List.nil_append] at this
      exact this
    rw [f0]
    cases its with
    | nil => simp
    | cons a r' => rw [if_neg (by simp)]
  refine wpAny_binaryOp_repeat_ref (T := "list") (U := "int") (by decide) ⟨_, e, rfl⟩ (fun s' => typeIs_int s' k t) noFill_list_mul F.fills_int_mul F.slot_int_rmul repeat_list F.slot_int_index.lookup
    (call_meets F.slot_int_rmul (typeIs_int s k t) F.entry_int_rmul (F.args_int_rmul_2 _ _) (int___rmul___int_list k t l its.toArray n)
      ⟨e, rfl, ⟨_, e, rfl⟩, call_meets F.slot_list_mul ⟨_, e, rfl⟩ F.entry_list_mul (F.args_list_mul_2 _ _) (AutoListH.list___mul___list_int_3 l its.toArray n k t hfit hcap hlong) ⟨e, ?_⟩⟩)
  rw [hnew]
  exact ⟨.ref _, _, I.lnew (t' := s.toks) (r.rep k.toNat) (by rw [len_rep, Nat.mul_comm]; exact hz), rfl, q _ I.fresh⟩

/-! ### del xs[i] -/
end

/-! ### xs[a:b] = ys -/
section
variable {prog : Program} {w : World} {A : Around} {E : Value → Shared → Prop} {s : Shared}
end

section
variable {X : Cx}
end
end L2

namespace Att
open PySem PySem.W PySem.Calls PyProof.Rows

/-! ### the script -/
theorem ints_of_wellAll {P : Params} {h : Heap} : ∀ (ns : List Int) (vs : List Value), WellAll P h vs (ns.map WData.int) → IntsAre vs ns := by
  intro ns
  induction ns with
  | nil =>
    intro vs w
    rw [List.map_nil] at w
    cases w
    exact .nil
  | cons n ns ih =>
    intro vs w
    rw [List.map_cons] at w
    cases w with
    | cons a b =>
      cases a
      exact .cons _ _ (ih _ b)

theorem script_of {l : OpenLaw} {n : Nat} (hn : l.most = some n) {P : Params} {h : Heap} {args : List WData} {vals : List Value}
    (hpre : l.row.toRowW.claim.pre args = true) (hwl : WellAll P h vals args) :
    ∃ a vs ns, vals = [Value.ref a] ∧ args = [WData.list (ns.map WData.int)] ∧ h.get? a = some { cls := .type "list", data := .seq vs.toArray } ∧ IntsAre vs ns ∧ ns.length ≤ n := by
  have hsh : WShape.hasAll [] args [.list .int] = true := (pre_splitW hpre).1
  have hc : l.pre.holds [] { args := args } = true := (pre_splitW hpre).2
  obtain ⟨d, r, rfl, h1, h2⟩ := hasAllW_cons hsh
  obtain rfl := hasAllW_nil h2
  obtain ⟨xs, rfl, h3⟩ := hasW_list h1
  obtain ⟨ns, rfl⟩ := items_int h3
  have hlen : ns.length ≤ n := by
    unfold OpenLaw.pre at hc
    have h4 : (WTm.not (.lt (.lit (.int (n : Int))) (.len (.arg 0)))).holds [] { args := [.list (ns.map .int)] } = true := by
      have h4 := (holds_andW hc).1
      rw [hn] at h4
      exact h4
    have h5 := condW_of h4 (w_not (w_lt w_lit (w_len_list (w_arg rfl))))
    rw [List.length_map] at h5
    refine Nat.le_of_not_lt fun q => ?_
    have q' : (n : Int) < ((ns.length : Nat) : Int) := by omega
    first
      | (rw [decide_eq_true q'] at h5; exact absurd h5 (by decide))
      | (simp at h5; omega)
  cases hwl with
  | cons w1 w2 =>
    cases w2
    cases w1 with
    | list ho hall => exact ⟨_, _, ns, rfl, rfl, ho, ints_of_wellAll ns _ hall, hlen⟩

theorem post_true (l : OpenLaw) (args : List WData) : l.row.toRowW.claim.post args (.bool true) args = true :=
  postW_of (r := l.row.toRowW) (X := (true == true))
    (show WShape.has [] (.bool true) .bool = true by first | rfl | decide | simp [WShape.has, WShape.arms, WShape.armsAll])
    (show (WTm.eq .res (.lit (.bool true))).value [] { args := args, res := some (.bool true), after := args } = some (.bool (true == true)) from w_eq_bool (w_res rfl) w_lit) rfl

/-! ### the attachment: holds_open's last premise (the goal 'hc' behind k_head) from a wpAny of the law's body -/
/-- the same from a codeAny of the CALL (for a layer whose function contracts speak of calls) -/
theorem attach_call {l : OpenLaw} {n : Nat} {q : Program} {loose : List Str} {XP : (Str → Option Value) → Heap → Prop} {YP : World → Heap → Prop} {d : DefRec}
    (hn : l.most = some n) (hdf : d.params.defaults = [])
    (call : ∀ (w : World) (s₀ s₁ : Shared) (mg mb : Str → Option Value) (fa : Addr) (o : Obj) (pm cd doc : Value) (a : Addr) (vs : List Value) (ns : List Int),
      Ground q loose [] XP w s₀ mg mb s₁.heap → YP w s₁.heap →
      s₁.heap.get? fa = some o → o.data = .func (docDef d.name d.params d.body d.scope pm cd doc) → s₁.heap.CodeRec cd d.name → mg d.name = some (.ref fa) →
      s₁.heap.get? a = some { cls := .type "list", data := .seq vs.toArray } → IntsAre vs ns → ns.length ≤ n → s₁.gens = #[] →
      codeAny (model l.prog w) callerA (.call (.ref fa) ⟨[.ref a], []⟩) (fun r s' => r = .ok (.ret (.bool true)) ∧ OldK s₁.heap s'.heap ∧ s'.os = s₁.os ∧ AllBare s'.gens) s₁) :
    WalkO q loose XP YP l.row.toRowW d [] (fun f vs => PySem.call f vs) := by
  intro w s₀ s₁ mg mb G Y fa o pm cd doc dV kV ho hd hcd hD hmg hg args vals as hpre hlay hrd hwl hlo
  obtain rfl : dV = .none := Dflts.none hD hdf
  obtain rfl : kV = .none := Dflts.noKw hD
  obtain ⟨a, vs, ns, rfl, rfl, hobj, hints, hlen⟩ := script_of hn hpre hwl
  refine enter_call (codeAny_mono (call w s₀ s₁ mg mb fa o pm cd doc a vs ns G Y ho (fd_plain hd) hcd hmg hobj hints hlen hg) fun r s' hq => ?_)
  obtain ⟨rfl, h2, h3, h4⟩ := hq
  exact ⟨.inl ⟨.bool true, .bool true, [], rfl, fun _ => rfl, .bool true, post_true l _, fun _ => ⟨List.Pairwise.nil, fun _ hm => (nomatch hm)⟩⟩, h2, h3, h4⟩

/-! ### rules over ANY heap (no ledger) from facts about the written part K: the library's own take a ledger (News) for what they write -/
section
variable {prog : Program} {w : World} {A : Around} {E : Value → Shared → Prop} {s : Shared} {K : Frag}

/-! the whole heap as the ledger: makes every rule that writes through a ledger a rule over any heap -/
end
end Att

namespace L2
open PySem PySem.Spec PyProof.Rows

theorem vals_ints : ∀ {vs : List Value} {ns : List Int}, IntsAre vs ns → Vals (ns.map V.int) vs
  | _, _, .nil => .nil
  | _, _, .cons n t h => .cons ⟨t, rfl⟩ (vals_ints h)

/-- nothing is tracked but the script, known to the object (or it is an object of the module) -/
def Only (H : Hp) : Prop := ∀ b, H b = none ∨ ∃ o xs, H b = some (.frz o (.lst xs))

/-- THE HEAD: the law's promise, at the heap behind the top. F, the promise of the law's def, may use that base is part of the heap (so K.In base, base.Ns mainGlobals mg stand in Mod) -/
theorem law_call {P : Program} {w : World} {K : PySem.W.Frag} {mg mb : Str → Option Value} {CX : CXT} {k : Nat} {fa a : Addr} {fd : FuncData} {x : Str} {sp : Sp} {s₁ : Shared} {vs : List Value} {ns : List Int}
    (KX : K.In s₁.heap) (hns : s₁.heap.Ns mainGlobals mg) (hb : s₁.heap.Ns builtinsNs mb) (hbb : ∀ x : Str, x ≠ "__name__" → mb x = bootBuiltins x) (hlim : s₁.heap.NoLimit) (hg : s₁.gens = #[])
    (ha : s₁.heap.get? a = some { cls := .type "list", data := .seq vs.toArray }) (hi : IntsAre vs ns) (hl : ns.length ≤ sizeLine) (hr : Room k callerA)
    (F : ∀ base : Heap, K.In base → base.Ns mainGlobals mg → FnOk P w K mg base CX k fa fd [x] sp) (hbind : ∀ (s : Shared) (u : Value), BindsTo s fd ⟨[u], []⟩ [(x, u)])
    (hsp : ∀ H : Hp, Only H → SqL K H a (ns.map V.int) → sp [.ref a] H (fun v _ => v = .bl true) fun _ _ _ => False)
    (hCX : ∀ H e s', CX [] H s₁ (fun _ _ _ => False) e s' → False) :
    codeAny (model P w) callerA (.call (.ref fa) ⟨[.ref a], []⟩) (fun r s' => r = .ok (.ret (.bool true)) ∧ OldK s₁.heap s'.heap ∧ s'.os = s₁.os ∧ AllBare s'.gens) s₁ := by
  have rv := vals_ints hi
  have lenV := hi.length
  -- from an abstract heap in which nothing but the script may be tracked
  have core : ∀ H : Hp, Only H → SqL K H a (ns.map V.int) → HOk P w H s₁.heap → (∀ b, H b ≠ none → b = a) → (H a ≠ none → K.lookup a = none) →
      codeAny (model P w) callerA (.call (.ref fa) ⟨[.ref a], []⟩) (fun r s' => r = .ok (.ret (.bool true)) ∧ OldK s₁.heap s'.heap ∧ s'.os = s₁.os ∧ AllBare s'.gens) s₁ := by
    intro H hO hS hok hA hK
    have base_of : ∀ {b : Addr} {o : Obj}, s₁.heap.get? b = some o → H b = none → (hidT s₁.heap H).get? b = some o := fun e n => hidT_get e n
    have noA : ∀ {b : Addr} {o : Obj} {es : Array DictEntry} {ep : Nat}, s₁.heap.get? b = some o → o.data = .dict es ep → H b = none := fun {b o es ep} e d => by
      cases q : H b with
      | none => rfl
      | some u =>
        have e' : b = a := hA b (by rw [q]; simp)
        subst e'
        rw [ha] at e; cases e
        have d' : Data.seq vs.toArray _ = Data.dict es ep := d
        cases d'
    have nsK : ∀ {b : Addr} {m : Str → Option Value}, s₁.heap.Ns b m → (hidT s₁.heap H).Ns b m := fun {b m} ⟨o, es, ep, e, d, r⟩ => ⟨o, es, ep, base_of e (noA e d), d, r⟩
    have hKb : K.In (hidT s₁.heap H) := fun b o e => base_of (KX b o e) (by
      cases q : H b with
      | none => rfl
      | some u =>
        have e' : b = a := hA b (by rw [q]; simp)
        subst e'
        rw [hK (by rw [q]; simp)] at e; cases e)
    have hM : Mod K mg (hidT s₁.heap H) := ⟨hKb, nsK hns, ⟨mb, nsK hb, hbb⟩, let ⟨mc, h1, h2⟩ := hlim; ⟨mc, nsK h1, h2⟩⟩
    have e0 : Env0 P w K mg (hidT s₁.heap H) callerA [] s₁ H := ⟨rfl, hM, fun b o e => of_hidT e, Nat.le_of_eq (hidT_size _ _), trivial, fun b hb => absurd (show b ∈ ([] : List Addr) from hb) (by simp), hok, .of_eq hg⟩
    refine codeAny_mono ((F _ hKb (nsK hns)).run callerA [] s₁ H ⟨[.ref a], []⟩ [.ref a] [.ref a] _ _ hr e0 (hbind s₁ (.ref a)) (.cons rfl .nil) (hsp H hO hS)) fun r s' h => ?_
    cases r with
    | error e => exact (hCX H e s' h).elim
    | ok fl =>
      cases fl with
      | next => exact False.elim h
      | brk => exact False.elim h
      | cont => exact False.elim h
      | ret u =>
        obtain ⟨v, H', os, bare, un, hok', r', q⟩ := h
        have q' : v = .bl true := q
        subst q'
        obtain rfl : u = Value.bool true := r'
        refine ⟨rfl, OldK.of_keep fun b o e => ?_, os, bare⟩
        cases q : H b with
        | none => exact un.keep b o e q (by intro z; exact absurd (show b ∈ ([] : List Addr) from z) (by simp)) (by simp)
        | some u =>
          rcases hO b with z | ⟨ob, xs, z⟩
          · rw [q] at z; cases z
          · have z2 := un.frzs b ob _ z
            obtain ⟨e1, _⟩ := hok b _ z
            obtain ⟨e2, _⟩ := hok' b _ z2
            rw [e] at e1; cases e1
            exact e2
  cases hk : K.lookup a with
  | some o =>
    -- the script is one of the module's own objects
    have e := KX a o hk
    rw [ha] at e
    cases e
    refine core (fun _ => none) (fun _ => .inl rfl) (.inr ⟨_, vs.toArray, _, hk, rfl, rfl, rfl, by rw [List.size_toArray, lenV]; exact hl, by simpa using rv⟩) (fun b u z => by have z' : (none : Option HO) = some u := z; cases z') (fun b z => absurd rfl z) fun z => absurd rfl z
  | none =>
    refine core (fun b => if b = a then some (.frz { cls := .type "list", data := .seq vs.toArray } (.lst (ns.map V.int))) else none) (fun b => ?_) (.inl (.inr ⟨{ cls := .type "list", data := .seq vs.toArray }, if_pos rfl⟩)) (fun b u z => ?_) (fun b z => ?_) fun _ => hk
    · by_cases hb : b = a
      · exact .inr ⟨_, _, if_pos hb⟩
      · exact .inl (if_neg hb)
    · by_cases hb : b = a
      · have z' := (if_pos hb).symm.trans z
        cases z'
        subst hb
        exact ⟨ha, by rw [List.length_map]; exact hl, vs, _, rv, ha⟩
      · have z' := (if_neg hb).symm.trans z
        cases z'
    · by_cases hb : b = a
      · exact hb
      · exact absurd (if_neg hb) z
end L2

namespace L2
open PySem PySem.Spec PyProof.Rows

abbrev KOf {K : PySem.W.Frag} {h : Heap} (_ : K.In h) : PySem.W.Frag := K

/-- the goal that k_head leaves (case hc), from the law's promise. F gives the function object fd (K's own) once, then the promise over every base -/
theorem walk_of {l : PySem.W.OpenLaw} {n k : Nat} {q : Program} {loose : List Str} {XP : (Str → Option Value) → Heap → Prop} {YP : World → Heap → Prop} {d : DefRec} {K : Params → PySem.W.Frag} {CX : World → CXT} {sp : World → Sp} {x : Str}
    (hn : l.most = some n) (hn2 : n ≤ sizeLine) (hdf : d.params.defaults = []) (hr : Room k callerA)
    (hY : ∀ (w : World) (h : Heap), YP w h → (K w.params).In h)
    (F : ∀ (w : World) (mg : Str → Option Value) (fa : Addr) (h : Heap), (K w.params).In h → h.Ns mainGlobals mg → mg d.name = some (.ref fa) →
      ∃ fd : FuncData, (∀ (s : Shared) (u : Value), BindsTo s fd ⟨[u], []⟩ [(x, u)]) ∧
        ∀ base : Heap, (K w.params).In base → base.Ns mainGlobals mg → FnOk l.prog w (K w.params) mg base (CX w) k fa fd [x] (sp w))
    (hsp : ∀ (w : World) (H : Hp) (a : Addr) (ns : List Int), ns.length ≤ n → Only H → SqL (K w.params) H a (ns.map V.int) → sp w [.ref a] H (fun v _ => v = .bl true) fun _ _ _ => False)
    (hCX : ∀ (w : World) (H : Hp) (s : Shared) (e : Value) (s' : Shared), CX w [] H s (fun _ _ _ => False) e s' → False) :
    PySem.W.WalkO q loose XP YP l.row.toRowW d [] (fun f vs => PySem.call f vs) := by
  refine Att.attach_call hn hdf fun w s₀ s₁ mg mb fa o pm cd doc a vs ns G Y ho hd hcd hmg hobj hints hlen hg => ?_
  have KX := hY w _ Y
  obtain ⟨fd, hb, hF⟩ := F w mg fa _ KX G.T.g hmg
  exact law_call KX G.T.g G.T.b G.T.builtins G.T.nolimit hg hobj hints (Nat.le_trans hlen hn2) hr hF hb (fun H hO hS => hsp w H a ns hlen hO hS) fun H e s' => hCX w H s₁ e s'
end L2

/- THE LAST THEOREM (shape; LID, My.* are yours):
   My.Adr: a structure of the addresses that your layer names (classes, functions); My.Txt K t: a structure (Prop) of the equations over K;
   My.txt_mk : {K} {implicit addresses ..} (e1 : nsIn K mainGlobals "law" = some (some (.ref f))) (e2 : K.lookup f = some ⟨oc, od, .func (fnOf "law" "law" params body scope dV kV doc pm an cdv ct), sl⟩) (e3 : codeIn K cdv "law" = true) .. : ∃ t, My.Txt K t

set_option maxRecDepth 100000 in
set_option maxHeartbeats 0 in
theorem PySem.Challenge.cw_LID_holds : PySem.Challenge.rw_LID.Holds := by
  w_on; o_law; k_head; (case hw => w_witness2)
  k_fill
  refine L2.walk_of (l := PySem.Challenge.rw_LID) (n := 63) (k := 40) (x := "script") (CX := fun w => ..) (sp := fun _ => My.sp_law) rfl (by decide) rfl ⟨rfl, by decide, by decide⟩ (fun w h Y => PySem.W.kIn_of Y) ?F ?S ?C
  case F =>
    intro w mg fa h KX G hmg
    have T : ∃ t, My.Txt (L2.KOf KX) t := by
      dsimp only [L2.KOf]                          -- K must stand as «<heap const> w.params» for k_is
      refine' My.txt_mk ?e1 ?e2 ?e3 ..
      (case e1 => PySem.W.k_is)                    -- in the order: a name -> its address -> its object -> its parts
      (case e2 => PySem.W.k_is)
      ..
    obtain ⟨t, T⟩ := T
    have e0 := hmg.symm.trans (PySem.W.mg_of KX G T.law)
    cases e0                                       -- fa is the law's own address
    exact ⟨_, fun s u => .of_eq rfl, fun base kb nb => My.law_fn T kb nb⟩     -- if «.of_eq rfl» comes too early: refine' ⟨_, ?b, fun base kb nb => My.law_fn T kb nb⟩; exact fun s u => .of_eq rfl
  case S => exact fun w H a ns hl hO hS => ..
  case C => exact ..
(the tactic k_is has no namespace: write k_is) -/

/-! SHORT WORDS over the layer: a def of the text, its body, what a loop and a test want. -/
namespace L2
open PySem PySem.Spec PyProof.Rows

/-! ### the text by places -/
def defArgs (s : Stmt) : Arguments := match s with
  | .FunctionDef _ a _ _ _ _ _ _ _ _ => a
  | _ => { posonlyargs := [], args := [], vararg := none, kwonlyargs := [], kw_defaults := [], kwarg := none, defaults := [] }
def defBody (s : Stmt) : List Stmt := match s with
  | .FunctionDef _ _ b _ _ _ _ _ _ _ => b
  | _ => []
def defScope (s : Stmt) : Scope := match s with
  | .FunctionDef _ _ _ _ _ _ sc _ _ _ => sc
  | _ => { kind := .function, names := [], isGenerator := false, isCoroutine := false }

/-! ### no exception leaves a def -/
abbrev CX0 : CXT := fun _ _ _ _ _ _ => False
abbrev E0 : XK := fun _ _ _ => False
theorem pass0 {X : Cx} : Passes CX0 X E0 := fun _ _ _ _ _ _ _ h => h.elim

/-! ### a def (or method) of the text as it stands behind the top -/
structure Fun (K : PySem.W.Frag) (x qual : Str) (st : Stmt) (f : Addr) (fd : FuncData) : Prop where
  ex : ∃ (oc : Value) (od : Option Addr) (kV doc pm : Value) (an : Option Addr) (cdv ct : Value) (osl : Array (Option Value)),
    fd = PySem.W.fnOf x qual (defArgs st) (defBody st) (defScope st) .none kV doc pm an cdv ct ∧ K.lookup f = some ⟨oc, od, .func fd, osl⟩ ∧ PySem.W.codeIn K cdv qual = true
  kp : PySem.W.keepIn K (.ref f) = true
section
variable {P : Program} {w : World} {K : PySem.W.Frag} {mg : Str → Option Value} {base : Heap}
/-- THE RULE for a def: its body as a term of rules, and the reading of that term -/
theorem Fun.ok {x qual : Str} {st : Stmt} {f : Addr} {fd : FuncData} {N ps : List Str} {k : Nat} {sp : Sp} (F : Fun K x qual st f fd) (S : FnScope N ps (defScope st)) (len : ∀ vs H Q E, sp vs H Q E → vs.length = ps.length)
    (hbody : ∀ (cdv : Value) (A : Around) (outer : List Env) (s : Shared) (H : Hp) (vs : List V) (Q : VK) (E : XK), Room k (A.deeper (envOfC qual (defScope st) s.heap.objs.size f cdv)) → sp vs H Q E →
      ∃ t, PSs (cxOf CX0 P w K mg base N qual (defScope st) f cdv A outer s H E).nox (defBody st) t ∧ t { nx := fun _ H' => Q .non H', rt := Q } (start N vs) H) : FnOk P w K mg base CX0 (k + 1) f fd ps sp := by
  obtain ⟨oc, od, kV, doc, pm, an, cdv, ct, osl, rfl, lk, hcd⟩ := F.ex
  refine fn_of lk hcd S len fun A outer s H vs Q E hr hsp => ?_
  obtain ⟨t, h, q⟩ := hbody cdv A outer s H vs Q E hr hsp
  exact ⟨t, h.nox, q⟩
/-- how its arguments bind (no defaults): h is «fun _ _ _ _ _ _ us hl => match us, hl with | [_, _], _ => rfl», one _ a parameter -/
theorem Fun.binds {x qual : Str} {st : Stmt} {f : Addr} {fd : FuncData} {ps : List Str} (F : Fun K x qual st f fd)
    (h : ∀ (kV doc pm : Value) (an : Option Addr) (cdv ct : Value) (us : List Value), us.length = ps.length → bindArgs (PySem.W.fnOf x qual (defArgs st) (defBody st) (defScope st) .none kV doc pm an cdv ct) ⟨us, []⟩ = pure (ps.zip us)) : Binds K fd ps [] := by
  obtain ⟨oc, od, kV, doc, pm, an, cdv, ct, osl, rfl, lk, hcd⟩ := F.ex
  exact .all (h kV doc pm an cdv ct)
theorem fun_mk {x qual : Str} {st : Stmt} {f : Addr} {oc : Value} {od an : Option Addr} {osl : Array (Option Value)} {kV doc pm cdv ct : Value} (l : K.lookup f = some ⟨oc, od, .func (PySem.W.fnOf x qual (defArgs st) (defBody st) (defScope st) .none kV doc pm an cdv ct), osl⟩)
    (c : PySem.W.codeIn K cdv qual = true) (k : PySem.W.keepIn K (.ref f) = true) : Fun K x qual st f (PySem.W.fnOf x qual (defArgs st) (defBody st) (defScope st) .none kV doc pm an cdv ct) := ⟨⟨oc, od, kV, doc, pm, an, cdv, ct, osl, rfl, l, c⟩, k⟩
end
/-! ### expressions in short: the name that stands in the i-th slot -/
section
variable {X : Cx}
end

/-! ### tests -/
theorem iteF {A B : Prop} (h : B) : if false = true then A else B := by
  rw [if_neg Bool.false_ne_true]
  exact h
theorem iteT {A B : Prop} (h : A) : if true = true then A else B := by
  rw [if_pos rfl]
  exact h
/-! ### heaps -/
/-- all that was tracked is as it was -/
def Same (H H' : Hp) : Prop := ∀ b o, H b = some o → H' b = some o
theorem Same.refl (H : Hp) : Same H H := fun _ _ h => h
theorem Same.trans {H H1 H2 : Hp} (a : Same H H1) (b : Same H1 H2) : Same H H2 := fun c o h => b c o (a c o h)
theorem Same.free {H H' : Hp} (e : Same H H') {l : Addr} (h : H' l = Option.none) : H l = Option.none := by
  cases q : H l with
  | none => rfl
  | some o =>
    rw [e l o q] at h
    cases h
theorem Same.seq {K : PySem.W.Frag} {H H' : Hp} {a : Addr} {xs : List V} (e : Same H H') (h : SqL K H a xs) : SqL K H' a xs := by
  rcases h with (h | ⟨o, h⟩) | h
  · exact .inl (.inl (e _ _ h))
  · exact .inl (.inr ⟨o, e _ _ h⟩)
  · exact .inr h

end L2

set_option Elab.async false
set_option maxRecDepth 100000
set_option maxHeartbeats 4000000
namespace SB
open PySem PyProof.Rows

/-- an array whose keys are ints -/
def IK (xs : Array Keyed) : Prop := IntKeys xs
structure SI (a0 : Array Keyed) (st : SortSt) : Prop where
  perm : (arrOf st).Perm a0
  kind : kindOf st = oneType'
  failed : failedOf st = none
theorem SI.size {a0 : Array Keyed} {st : SortSt} (h : SI a0 st) : (arrOf st).size = a0.size := h.perm.size_eq
theorem SI.setArr {a0 : Array Keyed} {st : SortSt} (h : SI a0 st) {xs : Array Keyed} (hp : xs.Perm (arrOf st)) : SI a0 (setArr st xs) := ⟨hp.trans h.perm, h.kind, h.failed⟩
theorem SI.keys {a0 : Array Keyed} {st : SortSt} (h : SI a0 st) (h0 : IntKeys a0) : IntKeys (arrOf st) := fun p hp => h0 p ((Array.perm_iff_toList_perm.mp h.perm).mem_iff.mp hp)
theorem ik_at {xs : Array Keyed} (h : IntKeys xs) {i : Nat} (hi : i < xs.size) : ∃ p, xs[i]? = some p ∧ ∃ n t, p.1 = Value.int n t :=
  ⟨xs[i], getElem?_pos xs i hi, h _ (by simp)⟩
def gallop' : Bool → Keyed → Array Keyed → Nat → Nat → Nat → StateT SortSt Sem (Option Nat) := sortPriv% PySem.Builtin.gallop
def mergeLo' : Array Keyed → Array Keyed → StateT SortSt Sem (Array Keyed) := sortPriv% PySem.Builtin.mergeLo
def mergeHi' : Array Keyed → Array Keyed → StateT SortSt Sem (Array Keyed) := sortPriv% PySem.Builtin.mergeHi
def setMinGallop' : Nat → StateT SortSt Sem Unit := sortPriv% PySem.Builtin.setMinGallop
section
variable {prog : Program} {w : World} {A : Around} {E : Value → Shared → Prop} {s : Shared} {a0 : Array Keyed}
theorem wpS_elem {arr : Array Keyed} {i : Nat} {p : Keyed} {Q : Keyed → SortSt → Prop} {st : SortSt} (hp : arr[i]? = some p) (h : Q p st) : wpS (model prog w) A E s (elem' arr i) Q st := by
  rw [elem'_eq, hp]; exact wpS_pure h
theorem wpS_lt {x y : Keyed} {st : SortSt} {Q : Option Bool → SortSt → Prop} (hk : kindOf st = oneType') (hx : ∃ n t, x.1 = Value.int n t) (hy : ∃ n t, y.1 = Value.int n t)
    (h : ∀ b, Q (some b) st) : wpS (model prog w) A E s (lt' x y) Q st := by
  obtain ⟨n, t, ex⟩ := hx
  obtain ⟨m, u, ey⟩ := hy
  rw [lt'_eq]
  refine wpS_bind (wpS_get ?_)
  rw [hk, keyLt'_oneType, ex, ey]
  exact wpS_bind (wpS_lift (wpAny_attempt (oneLt_int ⟨rfl, wpS_pure (h _)⟩)))
theorem wpS_ltAt0 {i j : Nat} {st : SortSt} {Q : Option Bool → SortSt → Prop} (hB : SI a0 st) (h0 : IntKeys a0) (hi : i < a0.size) (hj : j < a0.size)
    (h : ∀ b, Q (some b) st) : wpS (model prog w) A E s (ltAt' i j) Q st := by
  obtain ⟨p, e1, k1⟩ := ik_at (hB.keys h0) (i := i) (by rw [hB.size]; exact hi)
  obtain ⟨q, e2, k2⟩ := ik_at (hB.keys h0) (i := j) (by rw [hB.size]; exact hj)
  rw [ltAt'_eq]
  refine wpS_bind (wpS_get ?_)
  exact wpS_bind (wpS_elem e1 (wpS_bind (wpS_elem e2 (wpS_lt hB.kind k1 k2 h))))
theorem wpS_rev {st : SortSt} {i j : Nat} {Q : Unit → SortSt → Prop} (hB : SI a0 st) (h : ∀ st', SI a0 st' → pendingOf st' = pendingOf st → Q () st') :
    wpS (model prog w) A E s (reverseSlice' i j) Q st := by
  rw [reverseSlice'_eq]; exact wpS_modify (h _ (hB.setArr (mirror_perm _ _ _ _)) rfl)
theorem wpS_down {st : SortSt} {i j : Nat} {Q : Unit → SortSt → Prop} (hB : SI a0 st) (h : ∀ st', SI a0 st' → pendingOf st' = pendingOf st → Q () st') :
    wpS (model prog w) A E s (moveDown' i j) Q st := by
  rw [moveDown'_eq]; exact wpS_modify (h _ (hB.setArr (bubble_perm _ _ _)) rfl)

/-- the state is a good one with that pending stack -/
def G (a0 : Array Keyed) (pe : Array (Nat × Nat × Nat)) (st : SortSt) : Prop := SI a0 st ∧ pendingOf st = pe

theorem count_ok {lo nrem : Nat} {pe : Array (Nat × Nat × Nat)} {st : SortSt} {Q : Option Nat → SortSt → Prop} (h0 : IntKeys a0) (hn : lo + nrem ≤ a0.size) (h1 : 1 ≤ nrem) (hB : G a0 pe st)
    (h : ∀ m st', G a0 pe st' → 1 ≤ m → m ≤ nrem → Q (some m) st') : wpS (model prog w) A E s (countRun' lo nrem) Q st := by
  rw [countRun'_eq]
  refine wpS_bind (wpS_mono (wpS_forRange (I := fun x c st' => c = (none, x) ∧ G a0 pe st') (Q := fun c st' => ∃ m, c = (none, m) ∧ 1 ≤ m ∧ m ≤ nrem ∧ G a0 pe st') ?s1 ?f1 ⟨rfl, hB⟩) ?p1)
  case f1 => rintro c st' ⟨rfl, g⟩; exact ⟨_, rfl, by omega, by omega, g⟩
  case s1 =>
    rintro x c st' hx1 hx2 ⟨rfl, g⟩
    refine wpS_bind (wpS_ltAt0 g.1 h0 (by omega) (by omega) fun b => ?_)
    cases b
    · exact wpS_pure ⟨rfl, g⟩
    · exact wpS_pure ⟨x, rfl, hx1, by omega, g⟩
  case p1 =>
    rintro c st' ⟨m, rfl, hm1, hm2, g⟩
    dsimp only
    by_cases hnn : m = nrem
    · rw [if_pos (by simpa using hnn)]
      exact wpS_pure (h _ _ g hm1 hm2)
    rw [if_neg (by simpa using hnn)]
    by_cases hgt : m > 1
    · rw [if_pos hgt]
      refine wpS_bind (wpS_ltAt0 g.1 h0 (by omega) (by omega) fun b => ?_)
      cases b
      · dsimp only
        rw [if_neg (by decide)]
        refine wpS_bind (wpS_rev g.1 fun st1 b1 e1 => ?_)
        refine wpS_bind (wpS_lift (wpAny_rule ⟨rfl, ?_⟩))
        refine wpS_bind (wpS_mono (wpS_forRange (I := fun x c st' => ∃ q, c = (none, x, q) ∧ G a0 pe st') (Q := fun c st' => ∃ m q, c = (none, m, q) ∧ 1 ≤ m ∧ m ≤ nrem ∧ G a0 pe st') ?_ ?_ ⟨0, rfl, ⟨b1, e1.trans g.2⟩⟩) ?_)
        · rintro x c st' hx1 hx2 ⟨q, rfl, g⟩
          dsimp only
          refine wpS_bind (wpS_ltAt0 g.1 h0 (by omega) (by omega) fun b => ?_)
          cases b
          · refine wpS_bind (wpS_ltAt0 g.1 h0 (by omega) (by omega) fun b => ?_)
            cases b
            · exact wpS_pure ⟨_, rfl, g⟩
            · exact wpS_pure ⟨x, q, rfl, by omega, by omega, g⟩
          · by_cases hq : q > 0
            · simp only [if_pos hq, if_true]
              exact wpS_bind (wpS_rev g.1 fun st2 b2 e2 => wpS_pure ⟨0, rfl, b2, e2.trans g.2⟩)
            · simp only [if_neg hq, if_true]
              exact wpS_pure ⟨0, rfl, g⟩
        · rintro c st' ⟨q, rfl, g⟩; exact ⟨_, _, rfl, by omega, by omega, g⟩
        · rintro c st' ⟨m, q, rfl, hm1, hm2, g⟩
          dsimp only
          by_cases hq : q > 0
          · rw [if_pos hq]
            refine wpS_bind (wpS_rev g.1 fun st2 b2 e2 => wpS_bind (wpS_rev b2 fun st3 b3 e3 => ?_))
            refine wpS_bind (wpS_mono (wpS_forRange (I := fun x c st' => c = (none, x) ∧ G a0 pe st') (Q := fun c st' => ∃ m, c = (none, m) ∧ 1 ≤ m ∧ m ≤ nrem ∧ G a0 pe st') ?_ ?_ ⟨rfl, ⟨b3, e3.trans (e2.trans g.2)⟩⟩) ?_)
            · rintro x c st' hx1 hx2 ⟨rfl, g⟩
              dsimp only
              refine wpS_bind (wpS_ltAt0 g.1 h0 (by omega) (by omega) fun b => ?_)
              cases b
              · exact wpS_pure ⟨rfl, g⟩
              · exact wpS_pure ⟨x, rfl, by omega, by omega, g⟩
            · rintro c st' ⟨rfl, g⟩; exact ⟨_, rfl, by omega, by omega, g⟩
            · rintro c st' ⟨m, rfl, hm1, hm2, g⟩
              exact wpS_pure (h _ _ g hm1 hm2)
          · rw [if_neg hq]
            refine wpS_bind (wpS_rev g.1 fun st3 b3 e3 => ?_)
            refine wpS_bind (wpS_mono (wpS_forRange (I := fun x c st' => c = (none, x) ∧ G a0 pe st') (Q := fun c st' => ∃ m, c = (none, m) ∧ 1 ≤ m ∧ m ≤ nrem ∧ G a0 pe st') ?_ ?_ ⟨rfl, ⟨b3, e3.trans g.2⟩⟩) ?_)
            · rintro x c st' hx1 hx2 ⟨rfl, g⟩
              dsimp only
              refine wpS_bind (wpS_ltAt0 g.1 h0 (by omega) (by omega) fun b => ?_)
              cases b
              · exact wpS_pure ⟨rfl, g⟩
              · exact wpS_pure ⟨x, rfl, by omega, by omega, g⟩
            · rintro c st' ⟨rfl, g⟩; exact ⟨_, rfl, by omega, by omega, g⟩
            · rintro c st' ⟨m, rfl, hm1, hm2, g⟩
              exact wpS_pure (h _ _ g hm1 hm2)
      · exact wpS_pure (h _ _ g hm1 hm2)
    · rw [if_neg hgt]
      refine wpS_bind (wpS_lift (wpAny_rule ⟨rfl, ?_⟩))
      refine wpS_bind (wpS_mono (wpS_forRange (I := fun x c st' => ∃ q, c = (none, x, q) ∧ G a0 pe st') (Q := fun c st' => ∃ m q, c = (none, m, q) ∧ 1 ≤ m ∧ m ≤ nrem ∧ G a0 pe st') ?_ ?_ ⟨0, rfl, g⟩) ?_)
      · rintro x c st' hx1 hx2 ⟨q, rfl, g⟩
        dsimp only
        refine wpS_bind (wpS_ltAt0 g.1 h0 (by omega) (by omega) fun b => ?_)
        cases b
        · refine wpS_bind (wpS_ltAt0 g.1 h0 (by omega) (by omega) fun b => ?_)
          cases b
          · exact wpS_pure ⟨_, rfl, g⟩
          · exact wpS_pure ⟨x, q, rfl, by omega, by omega, g⟩
        · by_cases hq : q > 0
          · simp only [if_pos hq, if_true]
            exact wpS_bind (wpS_rev g.1 fun st2 b2 e2 => wpS_pure ⟨0, rfl, b2, e2.trans g.2⟩)
          · simp only [if_neg hq, if_true]
            exact wpS_pure ⟨0, rfl, g⟩
      · rintro c st' ⟨q, rfl, g⟩; exact ⟨_, _, rfl, by omega, by omega, g⟩
      · rintro c st' ⟨m, q, rfl, hm1, hm2, g⟩
        dsimp only
        by_cases hq : q > 0
        · rw [if_pos hq]
          refine wpS_bind (wpS_rev g.1 fun st2 b2 e2 => wpS_bind (wpS_rev b2 fun st3 b3 e3 => ?_))
          refine wpS_bind (wpS_mono (wpS_forRange (I := fun x c st' => c = (none, x) ∧ G a0 pe st') (Q := fun c st' => ∃ m, c = (none, m) ∧ 1 ≤ m ∧ m ≤ nrem ∧ G a0 pe st') ?_ ?_ ⟨rfl, ⟨b3, e3.trans (e2.trans g.2)⟩⟩) ?_)
          · rintro x c st' hx1 hx2 ⟨rfl, g⟩
            dsimp only
            refine wpS_bind (wpS_ltAt0 g.1 h0 (by omega) (by omega) fun b => ?_)
            cases b
            · exact wpS_pure ⟨rfl, g⟩
            · exact wpS_pure ⟨x, rfl, by omega, by omega, g⟩
          · rintro c st' ⟨rfl, g⟩; exact ⟨_, rfl, by omega, by omega, g⟩
          · rintro c st' ⟨m, rfl, hm1, hm2, g⟩
            exact wpS_pure (h _ _ g hm1 hm2)
        · rw [if_neg hq]
          refine wpS_bind (wpS_rev g.1 fun st3 b3 e3 => ?_)
          refine wpS_bind (wpS_mono (wpS_forRange (I := fun x c st' => c = (none, x) ∧ G a0 pe st') (Q := fun c st' => ∃ m, c = (none, m) ∧ 1 ≤ m ∧ m ≤ nrem ∧ G a0 pe st') ?_ ?_ ⟨rfl, ⟨b3, e3.trans g.2⟩⟩) ?_)
          · rintro x c st' hx1 hx2 ⟨rfl, g⟩
            dsimp only
            refine wpS_bind (wpS_ltAt0 g.1 h0 (by omega) (by omega) fun b => ?_)
            cases b
            · exact wpS_pure ⟨rfl, g⟩
            · exact wpS_pure ⟨x, rfl, by omega, by omega, g⟩
          · rintro c st' ⟨rfl, g⟩; exact ⟨_, rfl, by omega, by omega, g⟩
          · rintro c st' ⟨m, rfl, hm1, hm2, g⟩
            exact wpS_pure (h _ _ g hm1 hm2)

theorem bins_ok {lo n ok : Nat} {pe : Array (Nat × Nat × Nat)} {st : SortSt} {Q : Bool → SortSt → Prop} (h0 : IntKeys a0) (hn : lo + n ≤ a0.size) (hB : G a0 pe st)
    (h : ∀ st', G a0 pe st' → Q true st') : wpS (model prog w) A E s (binarySort' lo n ok) Q st := by
  rw [binarySort'_eq]
  refine wpS_bind (wpS_mono (wpS_forRange (I := fun k c st' => c = (none, ()) ∧ G a0 pe st') (Q := fun c st' => c = (none, ()) ∧ G a0 pe st') ?_ ?_ ⟨rfl, hB⟩) ?_)
  · rintro k c st' hak hkn ⟨rfl, g⟩
    refine wpS_bind (wpS_mono (wpS_forRange (I := fun x c st'' => ∃ l r, c = (none, l, r) ∧ r ≤ k ∧ G a0 pe st'') (Q := fun c st'' => ∃ l r, c = (none, l, r) ∧ G a0 pe st'') ?_ ?_ ⟨0, k, rfl, Nat.le_refl _, g⟩) ?_)
    · rintro x c st'' _ hxk ⟨l, r, rfl, hr, g⟩
      dsimp only
      by_cases hge : l ≥ r
      · rw [if_pos hge]; exact wpS_pure ⟨l, r, rfl, g⟩
      · rw [if_neg hge]
        refine wpS_bind (wpS_ltAt0 g.1 h0 (by omega) (by omega) fun b => ?_)
        cases b
        · exact wpS_pure ⟨_, _, rfl, hr, g⟩
        · exact wpS_pure ⟨_, _, rfl, by omega, g⟩
    · rintro c st'' ⟨l, r, rfl, _, g⟩; exact ⟨l, r, rfl, g⟩
    · rintro c st'' ⟨l, r, rfl, g⟩
      exact wpS_bind (wpS_down g.1 fun st2 b2 e2 => wpS_pure ⟨rfl, b2, e2.trans g.2⟩)
  · rintro c st' ⟨rfl, g⟩; exact ⟨rfl, g⟩
  · rintro c st' ⟨rfl, g⟩; exact wpS_pure (h _ g)

theorem gallop_ok {left : Bool} {key : Keyed} {arr : Array Keyed} {base n hint : Nat} {st : SortSt} {Q : Option Nat → SortSt → Prop} (hk : kindOf st = oneType') (hkey : ∃ i t, key.1 = Value.int i t) (ha : IntKeys arr)
    (hb : base + n ≤ arr.size) (hh : hint < n) (h : ∀ k, k ≤ n → Q (some k) st) : wpS (model prog w) A E s (gallop' left key arr base n hint) Q st := by
  show wpS _ _ _ _ (_ >>= _) _ _
  have bey : ∀ (i : Nat) (Q' : Option Bool → SortSt → Prop), i < n → (∀ b, Q' (some b) st) → wpS (model prog w) A E s (do
      let x ← elem' arr (base + i)
      if left then lt' x key else return (← lt' key x).map (!·)) Q' st := by
    intro i Q' hi q
    obtain ⟨p, e1, k1⟩ := ik_at ha (i := base + i) (by omega)
    refine wpS_bind (wpS_elem e1 ?_)
    cases left
    · rw [if_neg (by decide)]
      exact wpS_bind (wpS_lt hk hkey k1 fun b => wpS_pure (q _))
    · rw [if_pos rfl]
      exact wpS_lt hk k1 hkey q
  dsimp only
  refine wpS_bind (bey hint _ hh fun b => ?_)
  cases b
  · dsimp only
    rw [if_neg (by decide)]
    refine wpS_bind (wpS_mono (wpS_forRange (I := fun x c st' => ∃ l r, c = (none, l, r) ∧ st = st') (Q := fun c st' => ∃ l r, c = (none, l, r) ∧ st = st') ?_ ?_ ⟨_, _, rfl, rfl⟩) ?_)
    · rintro x c st' _ hx ⟨l, r, rfl, rfl⟩
      dsimp only
      by_cases hge : r ≥ hint + 1
      · rw [if_pos hge]; exact wpS_pure ⟨l, r, rfl, rfl⟩
      · rw [if_neg hge]
        refine wpS_bind (bey _ _ (by omega) fun b => ?_)
        cases b
        · exact wpS_pure ⟨_, _, rfl, rfl⟩
        · exact wpS_pure ⟨_, _, rfl, rfl⟩
    · rintro c st' ⟨l, r, rfl, rfl⟩; exact ⟨l, r, rfl, rfl⟩
    · rintro c st' ⟨l, r, rfl, rfl⟩
      dsimp only
      refine wpS_bind (wpS_mono (wpS_forRange (I := fun x c st' => ∃ l r, c = (none, l, r) ∧ r ≤ n ∧ st = st') (Q := fun c st' => ∃ l r, c = (none, l, r) ∧ r ≤ n ∧ st = st') ?_ ?_ ⟨_, _, rfl, by omega, rfl⟩) ?_)
      · rintro x c st' _ hx ⟨l, r, rfl, hr, rfl⟩
        dsimp only
        by_cases hge : l ≥ r
        · rw [if_pos hge]; exact wpS_pure ⟨l, r, rfl, hr, rfl⟩
        · rw [if_neg hge]
          refine wpS_bind (bey _ _ (by omega) fun b => ?_)
          cases b
          · exact wpS_pure ⟨_, _, rfl, by omega, rfl⟩
          · exact wpS_pure ⟨_, _, rfl, hr, rfl⟩
      · rintro c st' ⟨l, r, rfl, hr, rfl⟩; exact ⟨l, r, rfl, hr, rfl⟩
      · rintro c st' ⟨l, r, rfl, hr, rfl⟩; exact wpS_pure (h _ hr)
  · dsimp only
    rw [if_pos rfl]
    refine wpS_bind (wpS_mono (wpS_forRange (I := fun x c st' => ∃ l r, c = (none, l, r) ∧ st = st') (Q := fun c st' => ∃ l r, c = (none, l, r) ∧ st = st') ?_ ?_ ⟨_, _, rfl, rfl⟩) ?_)
    · rintro x c st' _ hx ⟨l, r, rfl, rfl⟩
      dsimp only
      by_cases hge : r ≥ n - hint
      · rw [if_pos hge]; exact wpS_pure ⟨l, r, rfl, rfl⟩
      · rw [if_neg hge]
        refine wpS_bind (bey _ _ (by omega) fun b => ?_)
        cases b
        · exact wpS_pure ⟨_, _, rfl, rfl⟩
        · exact wpS_pure ⟨_, _, rfl, rfl⟩
    · rintro c st' ⟨l, r, rfl, rfl⟩; exact ⟨l, r, rfl, rfl⟩
    · rintro c st' ⟨l, r, rfl, rfl⟩
      dsimp only
      refine wpS_bind (wpS_mono (wpS_forRange (I := fun x c st' => ∃ l r, c = (none, l, r) ∧ r ≤ n ∧ st = st') (Q := fun c st' => ∃ l r, c = (none, l, r) ∧ r ≤ n ∧ st = st') ?_ ?_ ⟨_, _, rfl, by omega, rfl⟩) ?_)
      · rintro x c st' _ hx ⟨l, r, rfl, hr, rfl⟩
        dsimp only
        by_cases hge : l ≥ r
        · rw [if_pos hge]; exact wpS_pure ⟨l, r, rfl, hr, rfl⟩
        · rw [if_neg hge]
          refine wpS_bind (bey _ _ (by omega) fun b => ?_)
          cases b
          · exact wpS_pure ⟨_, _, rfl, by omega, rfl⟩
          · exact wpS_pure ⟨_, _, rfl, hr, rfl⟩
      · rintro c st' ⟨l, r, rfl, hr, rfl⟩; exact ⟨l, r, rfl, hr, rfl⟩
      · rintro c st' ⟨l, r, rfl, hr, rfl⟩; exact wpS_pure (h _ hr)

theorem setMin'_eq (g : Nat) : setMinGallop' g = modify fun s => SortSt.mk' (kindOf s) (arrOf s) (pendingOf s) g (failedOf s) := rfl
/-- what was laid out so far -/
def Laid (a b : Array Keyed) (ia ib : Nat) (out : Array Keyed) : Prop := out.toList.Perm (a.toList.take ia ++ b.toList.take ib)
theorem take_at {xs : Array Keyed} {i : Nat} {p : Keyed} (h : xs[i]? = some p) : xs.toList.take (i + 1) = xs.toList.take i ++ [p] := by
  have h' : xs.toList[i]? = some p := by simpa using h
  rw [List.take_add_one, h']; rfl
theorem Laid.b {a b : Array Keyed} {ia ib : Nat} {out : Array Keyed} (h : Laid a b ia ib out) {p : Keyed} (hp : b[ib]? = some p) : Laid a b ia (ib + 1) (out.push p) := by
  unfold Laid at h ⊢
  rw [take_at hp, Array.toList_push, ← List.append_assoc]
  exact h.append_right _
theorem Laid.a {a b : Array Keyed} {ia ib : Nat} {out : Array Keyed} (h : Laid a b ia ib out) {p : Keyed} (hp : a[ia]? = some p) : Laid a b (ia + 1) ib (out.push p) := by
  unfold Laid at h ⊢
  rw [take_at hp, Array.toList_push, List.append_assoc]
  refine (h.append_right _).trans ?_
  rw [List.append_assoc]
  exact (List.perm_append_comm).append_left _
theorem ext_list (xs : Array Keyed) (i j : Nat) : (xs.extract i j).toList = (xs.toList.take j).drop i := by
  rw [Array.toList_extract, List.extract_eq_take_drop, List.drop_take]
theorem take_ext (xs : Array Keyed) (i k : Nat) : xs.toList.take (i + k) = xs.toList.take i ++ (xs.extract i (i + k)).toList := by
  rw [ext_list]
  have := List.take_append_drop i (xs.toList.take (i + k))
  rw [List.take_take, Nat.min_eq_left (by omega)] at this
  exact this.symm
theorem Laid.ak {a b : Array Keyed} {ia ib : Nat} {out : Array Keyed} (h : Laid a b ia ib out) (k : Nat) : Laid a b (ia + k) ib (out ++ a.extract ia (ia + k)) := by
  unfold Laid at h ⊢
  rw [take_ext, Array.toList_append, List.append_assoc]
  refine (h.append_right _).trans ?_
  rw [List.append_assoc]
  exact (List.perm_append_comm).append_left _
theorem Laid.bk {a b : Array Keyed} {ia ib : Nat} {out : Array Keyed} (h : Laid a b ia ib out) (k : Nat) : Laid a b ia (ib + k) (out ++ b.extract ib (ib + k)) := by
  unfold Laid at h ⊢
  rw [take_ext, Array.toList_append, ← List.append_assoc]
  exact h.append_right _
theorem Laid.all {a b : Array Keyed} {ia ib : Nat} {out : Array Keyed} (h : Laid a b ia ib out) (ha : ia ≤ a.size) (hb : ib ≤ b.size) :
    (out ++ a.extract ia a.size ++ b.extract ib b.size).toList.Perm (a.toList ++ b.toList) := by
  obtain ⟨j, hj⟩ : ∃ j, a.size = ia + j := ⟨a.size - ia, by omega⟩
  obtain ⟨k, hk⟩ : ∃ k, b.size = ib + k := ⟨b.size - ib, by omega⟩
  have q := (h.ak j).bk k
  rw [← hj, ← hk] at q
  unfold Laid at q
  rw [List.take_of_length_le (by simp), List.take_of_length_le (by simp)] at q
  exact q
theorem Laid.all' {a b : Array Keyed} {ia ib : Nat} {out : Array Keyed} (h : Laid a b ia ib out) (ha : ia ≤ a.size) (hb : ib ≤ b.size) :
    (out ++ b.extract ib b.size ++ a.extract ia a.size).toList.Perm (a.toList ++ b.toList) := by
  obtain ⟨j, hj⟩ : ∃ j, a.size = ia + j := ⟨a.size - ia, by omega⟩
  obtain ⟨k, hk⟩ : ∃ k, b.size = ib + k := ⟨b.size - ib, by omega⟩
  have q := (h.bk k).ak j
  rw [← hj, ← hk] at q
  unfold Laid at q
  rw [List.take_of_length_le (by simp), List.take_of_length_le (by simp)] at q
  exact q
theorem wpS_ite {α : Type} {c : Prop} [Decidable c] {t e : StateT SortSt Sem α} {Q : α → SortSt → Prop} {st : SortSt} {M : Model} (h1 : c → wpS M A E s t Q st) (h2 : ¬ c → wpS M A E s e Q st) :
    wpS M A E s (if c then t else e) Q st := by
  by_cases h : c
  · rw [if_pos h]; exact h1 h
  · rw [if_neg h]; exact h2 h
theorem wpS_iteB {α : Type} {x y : Nat} {t e : StateT SortSt Sem α} {Q : α → SortSt → Prop} {st : SortSt} {M : Model} (h1 : x = y → wpS M A E s t Q st) (h2 : x ≠ y → wpS M A E s e Q st) :
    wpS M A E s (if (x == y) = true then t else e) Q st :=
  wpS_ite (fun h => h1 (by simpa using h)) fun h => h2 (by simpa using h)
theorem wpS_elemB {arr : Array Keyed} {i : Nat} {Q : Keyed → SortSt → Prop} {st : SortSt} (ha : IntKeys arr) (hi : i < arr.size) (h : ∀ p, arr[i]? = some p → (∃ n t, p.1 = Value.int n t) → Q p st) :
    wpS (model prog w) A E s (elem' arr i) Q st := by
  obtain ⟨p, e, k⟩ := ik_at ha hi
  exact wpS_elem e (h p e k)
/-- as G, and the array is xs -/
def GX (a0 : Array Keyed) (pe : Array (Nat × Nat × Nat)) (xs : Array Keyed) (st : SortSt) : Prop := G a0 pe st ∧ arrOf st = xs
theorem wpS_setMin {g : Nat} {pe : Array (Nat × Nat × Nat)} {xs : Array Keyed} {Q : Unit → SortSt → Prop} {st : SortSt} (hB : GX a0 pe xs st) (h : ∀ st', GX a0 pe xs st' → Q () st') :
    wpS (model prog w) A E s (setMinGallop' g) Q st := by
  rw [setMin'_eq]
  exact wpS_modify (h _ ⟨⟨⟨hB.1.1.perm, hB.1.1.kind, hB.1.1.failed⟩, hB.1.2⟩, hB.2⟩)
structure Mid (a b : Array Keyed) (c0 ia ib : Nat) (out : Array Keyed) : Prop where
  laid : Laid a b ia ib out
  ha : ia + 1 < a.size
  hb : ib < b.size
  pr : c0 ≤ ia + ib
def MRet (a b : Array Keyed) (GG : SortSt → Prop) {β : Type} (c : Option (Array Keyed) × β) (st' : SortSt) : Prop := ∃ r y, c = (some r, y) ∧ r.toList.Perm (a.toList ++ b.toList) ∧ GG st'
theorem mergeLo_ok {a b : Array Keyed} {pe : Array (Nat × Nat × Nat)} {xs : Array Keyed} {st : SortSt} {Q : Array Keyed → SortSt → Prop} (hB : GX a0 pe xs st) (ha : IntKeys a) (hb : IntKeys b) (ha1 : 1 ≤ a.size) (hb1 : 1 ≤ b.size)
    (h : ∀ out st', GX a0 pe xs st' → out.toList.Perm (a.toList ++ b.toList) → Q out st') : wpS (model prog w) A E s (mergeLo' a b) Q st := by
  show wpS _ _ _ _ (_ >>= _) _ _
  refine wpS_bind (wpS_lift (wpAny_rule ⟨rfl, ?_⟩))
  obtain ⟨b0, e0, _⟩ := ik_at hb (i := 0) (by omega)
  refine wpS_bind (wpS_elem e0 ?_)
  have L0 : Laid a b 0 1 #[b0] := by
    unfold Laid
    rw [take_at e0]; simp
  dsimp only
  refine wpS_iteB (fun h1 => wpS_pure (h _ _ hB (L0.all (by omega) (by omega)))) fun h1 => ?_
  refine wpS_iteB (fun h2 => wpS_pure (h _ _ hB (L0.all' (by omega) (by omega)))) fun h2 => ?_
  refine wpS_bind (wpS_get ?_)
  refine wpS_bind (wpS_mono (wpS_forRange (I := fun x c st' => ∃ out ia ib mg, c = (none, out, ia, ib, mg) ∧ Mid a b (x + 1) ia ib out ∧ GX a0 pe xs st') (Q := MRet a b (GX a0 pe xs)) ?step ?fin ⟨_, _, _, _, rfl, ⟨L0, by omega, by omega, by omega⟩, hB⟩) ?post)
  case fin =>
    rintro c st' ⟨out, ia, ib, mg, rfl, m, g⟩
    have := m.ha; have := m.hb; have := m.pr
    exfalso; omega
  case post =>
    rintro c st' ⟨r, y, rfl, p, g⟩
    exact wpS_pure (h _ _ g p)
  case step =>
    rintro x c st1 _ hx ⟨out, ia, ib, mg, rfl, m, g⟩
    dsimp only
    refine wpS_bind (wpS_mono (wpS_forRange (I := fun x2 c st' => ∃ out ia ib ac bc, c = (none, out, ia, ib, ac, bc) ∧ Mid a b (x + 1 + min x2 1) ia ib out ∧ GX a0 pe xs st')
      (Q := fun c st' => MRet a b (GX a0 pe xs) c st' ∨ ∃ out ia ib ac bc, c = (none, out, ia, ib, ac, bc) ∧ Mid a b (x + 2) ia ib out ∧ GX a0 pe xs st') ?_ ?_ ⟨_, _, _, _, _, rfl, m, g⟩) ?_)
    · rintro x2 c st2 _ hx2 ⟨out, ia, ib, ac, bc, rfl, m, g⟩
      have m1 := m.ha; have m2 := m.hb; have m3 := m.pr
      dsimp only
      refine wpS_bind (wpS_elemB hb (by omega) fun p1 hp1 kp1 => ?_)
      refine wpS_bind (wpS_elemB ha (by omega) fun p2 hp2 kp2 => ?_)
      refine wpS_bind (wpS_lt g.1.1.kind kp1 kp2 fun bw => ?_)
      dsimp only
      refine wpS_ite (fun hbw => ?_) (fun hbw => ?_)
      · refine wpS_bind (wpS_elemB hb (by omega) fun p3 hp3 kp3 => ?_)
        refine wpS_iteB (fun e => wpS_pure (.inl ⟨_, _, rfl, (m.laid.b hp3).all (by omega) (by omega), g⟩)) fun ne => ?_
        exact wpS_ite (fun _ => wpS_pure (.inr ⟨_, _, _, _, _, rfl, ⟨m.laid.b hp3, by omega, by omega, by omega⟩, g⟩)) fun _ => wpS_pure ⟨_, _, _, _, _, rfl, ⟨m.laid.b hp3, by omega, by omega, by omega⟩, g⟩
      · refine wpS_bind (wpS_elemB ha (by omega) fun p3 hp3 kp3 => ?_)
        refine wpS_iteB (fun e => wpS_pure (.inl ⟨_, _, rfl, (m.laid.a hp3).all' (by omega) (by omega), g⟩)) fun ne => ?_
        exact wpS_ite (fun _ => wpS_pure (.inr ⟨_, _, _, _, _, rfl, ⟨m.laid.a hp3, by omega, by omega, by omega⟩, g⟩)) fun _ => wpS_pure ⟨_, _, _, _, _, rfl, ⟨m.laid.a hp3, by omega, by omega, by omega⟩, g⟩
    · rintro c st2 ⟨out, ia, ib, ac, bc, rfl, m, g⟩
      exact .inr ⟨_, _, _, _, _, rfl, ⟨m.laid, m.ha, m.hb, by have := m.pr; omega⟩, g⟩
    · rintro c st2 (⟨r, y, rfl, p, g⟩ | ⟨out, ia, ib, ac, bc, rfl, m, g⟩)
      · exact wpS_pure ⟨_, _, rfl, p, g⟩
      · dsimp only
        refine wpS_bind (wpS_lift (wpAny_rule ⟨rfl, ?_⟩))
        refine wpS_bind (wpS_mono (wpS_forRange (I := fun _ c st' => ∃ out ia ib mg ac bc, c = (none, out, ia, ib, mg, ac, bc) ∧ Mid a b (x + 2) ia ib out ∧ GX a0 pe xs st')
          (Q := fun c st' => MRet a b (GX a0 pe xs) c st' ∨ ∃ out ia ib mg ac bc, c = (none, out, ia, ib, mg, ac, bc) ∧ Mid a b (x + 2) ia ib out ∧ GX a0 pe xs st') ?_ ?_ ⟨_, _, _, _, _, _, rfl, m, g⟩) ?_)
        · rintro x3 c st3 _ hx3 ⟨out, ia, ib, mg, ac, bc, rfl, m, g⟩
          have m1 := m.ha; have m2 := m.hb; have m3 := m.pr
          have L := m.laid
          dsimp only
          refine wpS_ite (fun hm => ?_) (fun hm => ?_)
          · refine wpS_bind (wpS_setMin g fun st1 g1 => ?_)
            refine wpS_bind (wpS_elemB hb (by omega) fun p hp kp => ?_)
            refine wpS_bind (gallop_ok g1.1.1.kind kp ha (by omega) (by omega) fun k hk => ?_)
            dsimp only
            refine wpS_ite (fun hk0 => ?_) (fun hk0 => ?_)
            · refine wpS_iteB (fun e => wpS_pure (.inl ⟨_, _, rfl, ((L).ak k).all' (by omega) (by omega), g1⟩)) fun ne1 => ?_
              refine wpS_iteB (fun e => wpS_pure (.inl ⟨_, _, rfl, ((L).ak k).all (by omega) (by omega), g1⟩)) fun ne2 => ?_
              refine wpS_bind (wpS_elemB hb (by omega) fun q1 hq1 kq1 => ?_)
              refine wpS_iteB (fun e => wpS_pure (.inl ⟨_, _, rfl, (((L).ak k).b hq1).all (by omega) (by omega), g1⟩)) fun ne3 => ?_
              refine wpS_bind (wpS_elemB ha (by omega) fun q2 hq2 kq2 => ?_)
              refine wpS_bind (gallop_ok g1.1.1.kind kq2 hb (by omega) (by omega) fun k2 hk2 => ?_)
              dsimp only
              refine wpS_ite (fun h22 => ?_) (fun h22 => ?_)
              · refine wpS_iteB (fun e => wpS_pure (.inl ⟨_, _, rfl, ((((L).ak k).b hq1).bk k2).all (by omega) (by omega), g1⟩)) fun ne4 => ?_
                refine wpS_bind (wpS_elemB ha (by omega) fun q3 hq3 kq3 => ?_)
                refine wpS_iteB (fun e => wpS_pure (.inl ⟨_, _, rfl, (((((L).ak k).b hq1).bk k2).a hq3).all' (by omega) (by omega), g1⟩)) fun ne5 => ?_
                refine wpS_ite (fun _ => wpS_pure (.inr ⟨_, _, _, _, _, _, rfl, ⟨((((L).ak k).b hq1).bk k2).a hq3, by omega, by omega, by omega⟩, g1⟩)) fun _ => wpS_pure ⟨_, _, _, _, _, _, rfl, ⟨((((L).ak k).b hq1).bk k2).a hq3, by omega, by omega, by omega⟩, g1⟩
              · refine wpS_bind (wpS_elemB ha (by omega) fun q3 hq3 kq3 => ?_)
                refine wpS_iteB (fun e => wpS_pure (.inl ⟨_, _, rfl, ((((L).ak k).b hq1).a hq3).all' (by omega) (by omega), g1⟩)) fun ne5 => ?_
                refine wpS_ite (fun _ => wpS_pure (.inr ⟨_, _, _, _, _, _, rfl, ⟨(((L).ak k).b hq1).a hq3, by omega, by omega, by omega⟩, g1⟩)) fun _ => wpS_pure ⟨_, _, _, _, _, _, rfl, ⟨(((L).ak k).b hq1).a hq3, by omega, by omega, by omega⟩, g1⟩
            · refine wpS_bind (wpS_elemB hb (by omega) fun q1 hq1 kq1 => ?_)
              refine wpS_iteB (fun e => wpS_pure (.inl ⟨_, _, rfl, ((L).b hq1).all (by omega) (by omega), g1⟩)) fun ne3 => ?_
              refine wpS_bind (wpS_elemB ha (by omega) fun q2 hq2 kq2 => ?_)
              refine wpS_bind (gallop_ok g1.1.1.kind kq2 hb (by omega) (by omega) fun k2 hk2 => ?_)
              dsimp only
              refine wpS_ite (fun h22 => ?_) (fun h22 => ?_)
              · refine wpS_iteB (fun e => wpS_pure (.inl ⟨_, _, rfl, (((L).b hq1).bk k2).all (by omega) (by omega), g1⟩)) fun ne4 => ?_
                refine wpS_bind (wpS_elemB ha (by omega) fun q3 hq3 kq3 => ?_)
                refine wpS_iteB (fun e => wpS_pure (.inl ⟨_, _, rfl, ((((L).b hq1).bk k2).a hq3).all' (by omega) (by omega), g1⟩)) fun ne5 => ?_
                refine wpS_ite (fun _ => wpS_pure (.inr ⟨_, _, _, _, _, _, rfl, ⟨(((L).b hq1).bk k2).a hq3, by omega, by omega, by omega⟩, g1⟩)) fun _ => wpS_pure ⟨_, _, _, _, _, _, rfl, ⟨(((L).b hq1).bk k2).a hq3, by omega, by omega, by omega⟩, g1⟩
              · refine wpS_bind (wpS_elemB ha (by omega) fun q3 hq3 kq3 => ?_)
                refine wpS_iteB (fun e => wpS_pure (.inl ⟨_, _, rfl, (((L).b hq1).a hq3).all' (by omega) (by omega), g1⟩)) fun ne5 => ?_
                refine wpS_ite (fun _ => wpS_pure (.inr ⟨_, _, _, _, _, _, rfl, ⟨((L).b hq1).a hq3, by omega, by omega, by omega⟩, g1⟩)) fun _ => wpS_pure ⟨_, _, _, _, _, _, rfl, ⟨((L).b hq1).a hq3, by omega, by omega, by omega⟩, g1⟩
          · refine wpS_bind (wpS_setMin g fun st1 g1 => ?_)
            refine wpS_bind (wpS_elemB hb (by omega) fun p hp kp => ?_)
            refine wpS_bind (gallop_ok g1.1.1.kind kp ha (by omega) (by omega) fun k hk => ?_)
            dsimp only
            refine wpS_ite (fun hk0 => ?_) (fun hk0 => ?_)
            · refine wpS_iteB (fun e => wpS_pure (.inl ⟨_, _, rfl, ((L).ak k).all' (by omega) (by omega), g1⟩)) fun ne1 => ?_
              refine wpS_iteB (fun e => wpS_pure (.inl ⟨_, _, rfl, ((L).ak k).all (by omega) (by omega), g1⟩)) fun ne2 => ?_
              refine wpS_bind (wpS_elemB hb (by omega) fun q1 hq1 kq1 => ?_)
              refine wpS_iteB (fun e => wpS_pure (.inl ⟨_, _, rfl, (((L).ak k).b hq1).all (by omega) (by omega), g1⟩)) fun ne3 => ?_
              refine wpS_bind (wpS_elemB ha (by omega) fun q2 hq2 kq2 => ?_)
              refine wpS_bind (gallop_ok g1.1.1.kind kq2 hb (by omega) (by omega) fun k2 hk2 => ?_)
              dsimp only
              refine wpS_ite (fun h22 => ?_) (fun h22 => ?_)
              · refine wpS_iteB (fun e => wpS_pure (.inl ⟨_, _, rfl, ((((L).ak k).b hq1).bk k2).all (by omega) (by omega), g1⟩)) fun ne4 => ?_
                refine wpS_bind (wpS_elemB ha (by omega) fun q3 hq3 kq3 => ?_)
                refine wpS_iteB (fun e => wpS_pure (.inl ⟨_, _, rfl, (((((L).ak k).b hq1).bk k2).a hq3).all' (by omega) (by omega), g1⟩)) fun ne5 => ?_
                refine wpS_ite (fun _ => wpS_pure (.inr ⟨_, _, _, _, _, _, rfl, ⟨((((L).ak k).b hq1).bk k2).a hq3, by omega, by omega, by omega⟩, g1⟩)) fun _ => wpS_pure ⟨_, _, _, _, _, _, rfl, ⟨((((L).ak k).b hq1).bk k2).a hq3, by omega, by omega, by omega⟩, g1⟩
              · refine wpS_bind (wpS_elemB ha (by omega) fun q3 hq3 kq3 => ?_)
                refine wpS_iteB (fun e => wpS_pure (.inl ⟨_, _, rfl, ((((L).ak k).b hq1).a hq3).all' (by omega) (by omega), g1⟩)) fun ne5 => ?_
                refine wpS_ite (fun _ => wpS_pure (.inr ⟨_, _, _, _, _, _, rfl, ⟨(((L).ak k).b hq1).a hq3, by omega, by omega, by omega⟩, g1⟩)) fun _ => wpS_pure ⟨_, _, _, _, _, _, rfl, ⟨(((L).ak k).b hq1).a hq3, by omega, by omega, by omega⟩, g1⟩
            · refine wpS_bind (wpS_elemB hb (by omega) fun q1 hq1 kq1 => ?_)
              refine wpS_iteB (fun e => wpS_pure (.inl ⟨_, _, rfl, ((L).b hq1).all (by omega) (by omega), g1⟩)) fun ne3 => ?_
              refine wpS_bind (wpS_elemB ha (by omega) fun q2 hq2 kq2 => ?_)
              refine wpS_bind (gallop_ok g1.1.1.kind kq2 hb (by omega) (by omega) fun k2 hk2 => ?_)
              dsimp only
              refine wpS_ite (fun h22 => ?_) (fun h22 => ?_)
              · refine wpS_iteB (fun e => wpS_pure (.inl ⟨_, _, rfl, (((L).b hq1).bk k2).all (by omega) (by omega), g1⟩)) fun ne4 => ?_
                refine wpS_bind (wpS_elemB ha (by omega) fun q3 hq3 kq3 => ?_)
                refine wpS_iteB (fun e => wpS_pure (.inl ⟨_, _, rfl, ((((L).b hq1).bk k2).a hq3).all' (by omega) (by omega), g1⟩)) fun ne5 => ?_
                refine wpS_ite (fun _ => wpS_pure (.inr ⟨_, _, _, _, _, _, rfl, ⟨(((L).b hq1).bk k2).a hq3, by omega, by omega, by omega⟩, g1⟩)) fun _ => wpS_pure ⟨_, _, _, _, _, _, rfl, ⟨(((L).b hq1).bk k2).a hq3, by omega, by omega, by omega⟩, g1⟩
              · refine wpS_bind (wpS_elemB ha (by omega) fun q3 hq3 kq3 => ?_)
                refine wpS_iteB (fun e => wpS_pure (.inl ⟨_, _, rfl, (((L).b hq1).a hq3).all' (by omega) (by omega), g1⟩)) fun ne5 => ?_
                refine wpS_ite (fun _ => wpS_pure (.inr ⟨_, _, _, _, _, _, rfl, ⟨((L).b hq1).a hq3, by omega, by omega, by omega⟩, g1⟩)) fun _ => wpS_pure ⟨_, _, _, _, _, _, rfl, ⟨((L).b hq1).a hq3, by omega, by omega, by omega⟩, g1⟩
        · rintro c st3 z; exact .inr z
        · rintro c st3 (⟨r, y, rfl, p, g⟩ | ⟨out, ia, ib, mg, ac, bc, rfl, m, g⟩)
          · exact wpS_pure ⟨_, _, rfl, p, g⟩
          · exact wpS_bind (wpS_setMin g fun st4 g4 => wpS_pure ⟨_, _, _, _, rfl, m, g4⟩)
/-- what was laid out from behind so far -/
def LaidH (a b : Array Keyed) (na nb : Nat) (out : Array Keyed) : Prop := out.toList.Perm (a.toList.drop na ++ b.toList.drop nb)
theorem drop_at {xs : Array Keyed} {i : Nat} {p : Keyed} (h : xs[i]? = some p) : xs.toList.drop i = p :: xs.toList.drop (i + 1) := by
  have h' : xs.toList[i]? = some p := by simpa using h
  obtain ⟨hi, e⟩ := List.getElem?_eq_some_iff.mp h'
  rw [List.drop_eq_getElem_cons hi, e]
theorem LaidH.b {a b : Array Keyed} {na nb : Nat} {out : Array Keyed} (h : LaidH a b na nb out) (h1 : 1 ≤ nb) {p : Keyed} (hp : b[nb - 1]? = some p) : LaidH a b na (nb - 1) (out.push p) := by
  unfold LaidH at h ⊢
  rw [drop_at hp, Array.toList_push, Nat.sub_add_cancel h1]
  refine (h.append_right _).trans ?_
  rw [List.append_assoc]
  exact (List.perm_append_comm).append_left _
theorem LaidH.a {a b : Array Keyed} {na nb : Nat} {out : Array Keyed} (h : LaidH a b na nb out) (h1 : 1 ≤ na) {p : Keyed} (hp : a[na - 1]? = some p) : LaidH a b (na - 1) nb (out.push p) := by
  unfold LaidH at h ⊢
  rw [drop_at hp, Array.toList_push, Nat.sub_add_cancel h1]
  refine (h.append_right _).trans ?_
  exact List.perm_append_singleton _ _
theorem drop_ext (xs : Array Keyed) {i j : Nat} (h : i ≤ j) : xs.toList.drop i = (xs.extract i j).toList ++ xs.toList.drop j := by
  rw [ext_list]
  obtain ⟨k, rfl⟩ : ∃ k, j = i + k := ⟨j - i, by omega⟩
  rw [List.drop_take, Nat.add_sub_cancel_left, ← List.drop_drop, List.take_append_drop]
theorem LaidH.ak {a b : Array Keyed} {na nb : Nat} {out : Array Keyed} (h : LaidH a b na nb out) {k : Nat} (hk : k ≤ na) : LaidH a b k nb (out ++ (a.extract k na).reverse) := by
  unfold LaidH at h ⊢
  rw [drop_ext a hk, Array.toList_append, Array.toList_reverse]
  refine (h.append_right _).trans ?_
  refine (List.Perm.append_left _ (List.reverse_perm _)).trans ?_
  refine List.perm_append_comm.trans ?_
  rw [List.append_assoc]
theorem LaidH.bk {a b : Array Keyed} {na nb : Nat} {out : Array Keyed} (h : LaidH a b na nb out) {k : Nat} (hk : k ≤ nb) : LaidH a b na k (out ++ (b.extract k nb).reverse) := by
  unfold LaidH at h ⊢
  rw [drop_ext b hk, Array.toList_append, Array.toList_reverse]
  refine (h.append_right _).trans ?_
  refine (List.Perm.append_left _ (List.reverse_perm _)).trans ?_
  rw [List.append_assoc]
  exact (List.perm_append_comm).append_left _
theorem LaidH.all {a b : Array Keyed} {na nb : Nat} {out : Array Keyed} (h : LaidH a b na nb out) :
    (a.extract 0 na ++ b.extract 0 nb ++ out.reverse).toList.Perm (a.toList ++ b.toList) := by
  unfold LaidH at h
  rw [Array.toList_append, Array.toList_append, Array.toList_reverse, ext_list, ext_list, List.drop_zero, List.drop_zero]
  refine (List.Perm.append_left _ ((List.reverse_perm _).trans h)).trans ?_
  rw [List.append_assoc, ← List.append_assoc (b.toList.take nb)]
  refine (List.Perm.append_left _ (List.perm_append_comm.append_right _)).trans ?_
  rw [List.append_assoc, ← List.append_assoc, List.take_append_drop, List.take_append_drop]
theorem LaidH.all' {a b : Array Keyed} {na nb : Nat} {out : Array Keyed} (h : LaidH a b na nb out) :
    (b.extract 0 nb ++ a.extract 0 na ++ out.reverse).toList.Perm (a.toList ++ b.toList) := by
  refine List.Perm.trans ?_ h.all
  rw [Array.toList_append, Array.toList_append, Array.toList_append, Array.toList_append]
  exact List.perm_append_comm.append_right _
structure MidH (a b : Array Keyed) (c0 na nb : Nat) (out : Array Keyed) : Prop where
  laid : LaidH a b na nb out
  ha : 1 ≤ na
  ha2 : na ≤ a.size
  hb : 2 ≤ nb
  hb2 : nb ≤ b.size
  pr : c0 + na + nb ≤ a.size + b.size
theorem mergeHi_ok {a b : Array Keyed} {pe : Array (Nat × Nat × Nat)} {xs : Array Keyed} {st : SortSt} {Q : Array Keyed → SortSt → Prop} (hB : GX a0 pe xs st) (ha : IntKeys a) (hb : IntKeys b) (ha1 : 1 ≤ a.size) (hb1 : 1 ≤ b.size)
    (h : ∀ out st', GX a0 pe xs st' → out.toList.Perm (a.toList ++ b.toList) → Q out st') : wpS (model prog w) A E s (mergeHi' a b) Q st := by
  show wpS _ _ _ _ (_ >>= _) _ _
  refine wpS_bind (wpS_lift (wpAny_rule ⟨rfl, ?_⟩))
  obtain ⟨b0, e0, _⟩ := ik_at ha (i := a.size - 1) (by omega)
  refine wpS_bind (wpS_elem e0 ?_)
  have L0 : LaidH a b (a.size - 1) b.size #[b0] := by
    unfold LaidH
    rw [drop_at e0, List.drop_of_length_le (by simp; omega), List.drop_of_length_le (by simp)]
    simp
  dsimp only
  refine wpS_iteB (fun h1 => wpS_pure (h _ _ hB L0.all)) fun h1 => ?_
  refine wpS_iteB (fun h2 => wpS_pure (h _ _ hB L0.all')) fun h2 => ?_
  refine wpS_bind (wpS_get ?_)
  refine wpS_bind (wpS_mono (wpS_forRange (a := 0) (I := fun x c st' => ∃ out na nb mg, c = (none, na, nb, out, mg) ∧ MidH a b (x + 1) na nb out ∧ GX a0 pe xs st') (Q := MRet a b (GX a0 pe xs)) ?step ?fin ⟨#[b0], a.size - 1, b.size, gallopOf st, rfl, ⟨L0, by omega, by omega, by omega, by omega, by omega⟩, hB⟩) ?post)
  case fin =>
    rintro c st' ⟨out, na, nb, mg, rfl, m, g⟩
    have := m.ha; have := m.hb; have := m.pr
    exfalso; omega
  case post =>
    rintro c st' ⟨r, y, rfl, p, g⟩
    exact wpS_pure (h _ _ g p)
  case step =>
    rintro x c st1 _ hx ⟨out, na, nb, mg, rfl, m, g⟩
    dsimp only
    refine wpS_bind (wpS_mono (wpS_forRange (I := fun x2 c st' => ∃ out na nb ac bc, c = (none, na, nb, out, ac, bc) ∧ MidH a b (x + 1 + min x2 1) na nb out ∧ GX a0 pe xs st')
      (Q := fun c st' => MRet a b (GX a0 pe xs) c st' ∨ ∃ out na nb ac bc, c = (none, na, nb, out, ac, bc) ∧ MidH a b (x + 2) na nb out ∧ GX a0 pe xs st') ?_ ?_ ⟨_, _, _, _, _, rfl, m, g⟩) ?_)
    · rintro x2 c st2 _ hx2 ⟨out, na, nb, ac, bc, rfl, m, g⟩
      have m1 := m.ha; have m2 := m.hb; have m3 := m.pr; have m4 := m.ha2; have m5 := m.hb2
      dsimp only
      refine wpS_bind (wpS_elemB hb (by omega) fun p1 hp1 kp1 => ?_)
      refine wpS_bind (wpS_elemB ha (by omega) fun p2 hp2 kp2 => ?_)
      refine wpS_bind (wpS_lt g.1.1.kind kp1 kp2 fun bw => ?_)
      dsimp only
      refine wpS_ite (fun hbw => ?_) (fun hbw => ?_)
      · refine wpS_bind (wpS_elemB ha (by omega) fun p3 hp3 kp3 => ?_)
        refine wpS_iteB (fun e => wpS_pure (.inl ⟨_, _, rfl, (m.laid.a (by omega) hp3).all, g⟩)) fun ne => ?_
        exact wpS_ite (fun _ => wpS_pure (.inr ⟨_, _, _, _, _, rfl, ⟨m.laid.a (by omega) hp3, by omega, by omega, by omega, by omega, by omega⟩, g⟩)) fun _ => wpS_pure ⟨_, _, _, _, _, rfl, ⟨m.laid.a (by omega) hp3, by omega, by omega, by omega, by omega, by omega⟩, g⟩
      · refine wpS_bind (wpS_elemB hb (by omega) fun p3 hp3 kp3 => ?_)
        refine wpS_iteB (fun e => wpS_pure (.inl ⟨_, _, rfl, (m.laid.b (by omega) hp3).all', g⟩)) fun ne => ?_
        exact wpS_ite (fun _ => wpS_pure (.inr ⟨_, _, _, _, _, rfl, ⟨m.laid.b (by omega) hp3, by omega, by omega, by omega, by omega, by omega⟩, g⟩)) fun _ => wpS_pure ⟨_, _, _, _, _, rfl, ⟨m.laid.b (by omega) hp3, by omega, by omega, by omega, by omega, by omega⟩, g⟩
    · rintro c st2 ⟨out, na, nb, ac, bc, rfl, m, g⟩
      exact .inr ⟨_, _, _, _, _, rfl, ⟨m.laid, m.ha, m.ha2, m.hb, m.hb2, by have := m.pr; omega⟩, g⟩
    · rintro c st2 (⟨r, y, rfl, p, g⟩ | ⟨out, na, nb, ac, bc, rfl, m, g⟩)
      · exact wpS_pure ⟨_, _, rfl, p, g⟩
      · dsimp only
        refine wpS_bind (wpS_lift (wpAny_rule ⟨rfl, ?_⟩))
        refine wpS_bind (wpS_mono (wpS_forRange (I := fun _ c st' => ∃ out na nb mg ac bc, c = (none, na, nb, out, mg, ac, bc) ∧ MidH a b (x + 2) na nb out ∧ GX a0 pe xs st')
          (Q := fun c st' => MRet a b (GX a0 pe xs) c st' ∨ ∃ out na nb mg ac bc, c = (none, na, nb, out, mg, ac, bc) ∧ MidH a b (x + 2) na nb out ∧ GX a0 pe xs st') ?_ ?_ ⟨_, _, _, _, _, _, rfl, m, g⟩) ?_)
        · rintro x3 c st3 _ hx3 ⟨out, na, nb, mg, ac, bc, rfl, m, g⟩
          have m1 := m.ha; have m2 := m.hb; have m3 := m.pr; have m4 := m.ha2; have m5 := m.hb2
          have L := m.laid
          dsimp only
          refine wpS_ite (fun hm => ?_) (fun hm => ?_)
          · refine wpS_bind (wpS_setMin g fun st1 g1 => ?_)
            refine wpS_bind (wpS_elemB hb (by omega) fun p hp kp => ?_)
            refine wpS_bind (gallop_ok g1.1.1.kind kp ha (by omega) (by omega) fun k hk => ?_)
            dsimp only
            refine wpS_ite (fun hk0 => ?_) (fun hk0 => ?_)
            · refine wpS_iteB (fun e => wpS_pure (.inl ⟨_, _, rfl, ((L).ak hk).all, g1⟩)) fun ne1 => ?_
              refine wpS_bind (wpS_elemB hb (by omega) fun q1 hq1 kq1 => ?_)
              refine wpS_iteB (fun e => wpS_pure (.inl ⟨_, _, rfl, (((L).ak hk).b (by omega) hq1).all', g1⟩)) fun ne3 => ?_
              refine wpS_bind (wpS_elemB ha (by omega) fun q2 hq2 kq2 => ?_)
              refine wpS_bind (gallop_ok g1.1.1.kind kq2 hb (by omega) (by omega) fun k2 hk2 => ?_)
              dsimp only
              refine wpS_ite (fun h22 => ?_) (fun h22 => ?_)
              · refine wpS_iteB (fun e => wpS_pure (.inl ⟨_, _, rfl, ((((L).ak hk).b (by omega) hq1).bk hk2).all', g1⟩)) fun ne4 => ?_
                refine wpS_iteB (fun e => wpS_pure (.inl ⟨_, _, rfl, ((((L).ak hk).b (by omega) hq1).bk hk2).all, g1⟩)) fun ne4b => ?_
                refine wpS_bind (wpS_elemB ha (by omega) fun q3 hq3 kq3 => ?_)
                refine wpS_iteB (fun e => wpS_pure (.inl ⟨_, _, rfl, (((((L).ak hk).b (by omega) hq1).bk hk2).a (by omega) hq3).all, g1⟩)) fun ne5 => ?_
                refine wpS_ite (fun _ => wpS_pure (.inr ⟨_, _, _, _, _, _, rfl, ⟨((((L).ak hk).b (by omega) hq1).bk hk2).a (by omega) hq3, by omega, by omega, by omega, by omega, by omega⟩, g1⟩)) fun _ => wpS_pure ⟨_, _, _, _, _, _, rfl, ⟨((((L).ak hk).b (by omega) hq1).bk hk2).a (by omega) hq3, by omega, by omega, by omega, by omega, by omega⟩, g1⟩
              · refine wpS_bind (wpS_elemB ha (by omega) fun q3 hq3 kq3 => ?_)
                refine wpS_iteB (fun e => wpS_pure (.inl ⟨_, _, rfl, ((((L).ak hk).b (by omega) hq1).a (by omega) hq3).all, g1⟩)) fun ne5 => ?_
                refine wpS_ite (fun _ => wpS_pure (.inr ⟨_, _, _, _, _, _, rfl, ⟨(((L).ak hk).b (by omega) hq1).a (by omega) hq3, by omega, by omega, by omega, by omega, by omega⟩, g1⟩)) fun _ => wpS_pure ⟨_, _, _, _, _, _, rfl, ⟨(((L).ak hk).b (by omega) hq1).a (by omega) hq3, by omega, by omega, by omega, by omega, by omega⟩, g1⟩
            · refine wpS_bind (wpS_elemB hb (by omega) fun q1 hq1 kq1 => ?_)
              refine wpS_iteB (fun e => wpS_pure (.inl ⟨_, _, rfl, ((L).b (by omega) hq1).all', g1⟩)) fun ne3 => ?_
              refine wpS_bind (wpS_elemB ha (by omega) fun q2 hq2 kq2 => ?_)
              refine wpS_bind (gallop_ok g1.1.1.kind kq2 hb (by omega) (by omega) fun k2 hk2 => ?_)
              dsimp only
              refine wpS_ite (fun h22 => ?_) (fun h22 => ?_)
              · refine wpS_iteB (fun e => wpS_pure (.inl ⟨_, _, rfl, (((L).b (by omega) hq1).bk hk2).all', g1⟩)) fun ne4 => ?_
                refine wpS_iteB (fun e => wpS_pure (.inl ⟨_, _, rfl, (((L).b (by omega) hq1).bk hk2).all, g1⟩)) fun ne4b => ?_
                refine wpS_bind (wpS_elemB ha (by omega) fun q3 hq3 kq3 => ?_)
                refine wpS_iteB (fun e => wpS_pure (.inl ⟨_, _, rfl, ((((L).b (by omega) hq1).bk hk2).a (by omega) hq3).all, g1⟩)) fun ne5 => ?_
                refine wpS_ite (fun _ => wpS_pure (.inr ⟨_, _, _, _, _, _, rfl, ⟨(((L).b (by omega) hq1).bk hk2).a (by omega) hq3, by omega, by omega, by omega, by omega, by omega⟩, g1⟩)) fun _ => wpS_pure ⟨_, _, _, _, _, _, rfl, ⟨(((L).b (by omega) hq1).bk hk2).a (by omega) hq3, by omega, by omega, by omega, by omega, by omega⟩, g1⟩
              · refine wpS_bind (wpS_elemB ha (by omega) fun q3 hq3 kq3 => ?_)
                refine wpS_iteB (fun e => wpS_pure (.inl ⟨_, _, rfl, (((L).b (by omega) hq1).a (by omega) hq3).all, g1⟩)) fun ne5 => ?_
                refine wpS_ite (fun _ => wpS_pure (.inr ⟨_, _, _, _, _, _, rfl, ⟨((L).b (by omega) hq1).a (by omega) hq3, by omega, by omega, by omega, by omega, by omega⟩, g1⟩)) fun _ => wpS_pure ⟨_, _, _, _, _, _, rfl, ⟨((L).b (by omega) hq1).a (by omega) hq3, by omega, by omega, by omega, by omega, by omega⟩, g1⟩
          · refine wpS_bind (wpS_setMin g fun st1 g1 => ?_)
            refine wpS_bind (wpS_elemB hb (by omega) fun p hp kp => ?_)
            refine wpS_bind (gallop_ok g1.1.1.kind kp ha (by omega) (by omega) fun k hk => ?_)
            dsimp only
            refine wpS_ite (fun hk0 => ?_) (fun hk0 => ?_)
            · refine wpS_iteB (fun e => wpS_pure (.inl ⟨_, _, rfl, ((L).ak hk).all, g1⟩)) fun ne1 => ?_
              refine wpS_bind (wpS_elemB hb (by omega) fun q1 hq1 kq1 => ?_)
              refine wpS_iteB (fun e => wpS_pure (.inl ⟨_, _, rfl, (((L).ak hk).b (by omega) hq1).all', g1⟩)) fun ne3 => ?_
              refine wpS_bind (wpS_elemB ha (by omega) fun q2 hq2 kq2 => ?_)
              refine wpS_bind (gallop_ok g1.1.1.kind kq2 hb (by omega) (by omega) fun k2 hk2 => ?_)
              dsimp only
              refine wpS_ite (fun h22 => ?_) (fun h22 => ?_)
              · refine wpS_iteB (fun e => wpS_pure (.inl ⟨_, _, rfl, ((((L).ak hk).b (by omega) hq1).bk hk2).all', g1⟩)) fun ne4 => ?_
                refine wpS_iteB (fun e => wpS_pure (.inl ⟨_, _, rfl, ((((L).ak hk).b (by omega) hq1).bk hk2).all, g1⟩)) fun ne4b => ?_
                refine wpS_bind (wpS_elemB ha (by omega) fun q3 hq3 kq3 => ?_)
                refine wpS_iteB (fun e => wpS_pure (.inl ⟨_, _, rfl, (((((L).ak hk).b (by omega) hq1).bk hk2).a (by omega) hq3).all, g1⟩)) fun ne5 => ?_
                refine wpS_ite (fun _ => wpS_pure (.inr ⟨_, _, _, _, _, _, rfl, ⟨((((L).ak hk).b (by omega) hq1).bk hk2).a (by omega) hq3, by omega, by omega, by omega, by omega, by omega⟩, g1⟩)) fun _ => wpS_pure ⟨_, _, _, _, _, _, rfl, ⟨((((L).ak hk).b (by omega) hq1).bk hk2).a (by omega) hq3, by omega, by omega, by omega, by omega, by omega⟩, g1⟩
              · refine wpS_bind (wpS_elemB ha (by omega) fun q3 hq3 kq3 => ?_)
                refine wpS_iteB (fun e => wpS_pure (.inl ⟨_, _, rfl, ((((L).ak hk).b (by omega) hq1).a (by omega) hq3).all, g1⟩)) fun ne5 => ?_
                refine wpS_ite (fun _ => wpS_pure (.inr ⟨_, _, _, _, _, _, rfl, ⟨(((L).ak hk).b (by omega) hq1).a (by omega) hq3, by omega, by omega, by omega, by omega, by omega⟩, g1⟩)) fun _ => wpS_pure ⟨_, _, _, _, _, _, rfl, ⟨(((L).ak hk).b (by omega) hq1).a (by omega) hq3, by omega, by omega, by omega, by omega, by omega⟩, g1⟩
            · refine wpS_bind (wpS_elemB hb (by omega) fun q1 hq1 kq1 => ?_)
              refine wpS_iteB (fun e => wpS_pure (.inl ⟨_, _, rfl, ((L).b (by omega) hq1).all', g1⟩)) fun ne3 => ?_
              refine wpS_bind (wpS_elemB ha (by omega) fun q2 hq2 kq2 => ?_)
              refine wpS_bind (gallop_ok g1.1.1.kind kq2 hb (by omega) (by omega) fun k2 hk2 => ?_)
              dsimp only
              refine wpS_ite (fun h22 => ?_) (fun h22 => ?_)
              · refine wpS_iteB (fun e => wpS_pure (.inl ⟨_, _, rfl, (((L).b (by omega) hq1).bk hk2).all', g1⟩)) fun ne4 => ?_
                refine wpS_iteB (fun e => wpS_pure (.inl ⟨_, _, rfl, (((L).b (by omega) hq1).bk hk2).all, g1⟩)) fun ne4b => ?_
                refine wpS_bind (wpS_elemB ha (by omega) fun q3 hq3 kq3 => ?_)
                refine wpS_iteB (fun e => wpS_pure (.inl ⟨_, _, rfl, ((((L).b (by omega) hq1).bk hk2).a (by omega) hq3).all, g1⟩)) fun ne5 => ?_
                refine wpS_ite (fun _ => wpS_pure (.inr ⟨_, _, _, _, _, _, rfl, ⟨(((L).b (by omega) hq1).bk hk2).a (by omega) hq3, by omega, by omega, by omega, by omega, by omega⟩, g1⟩)) fun _ => wpS_pure ⟨_, _, _, _, _, _, rfl, ⟨(((L).b (by omega) hq1).bk hk2).a (by omega) hq3, by omega, by omega, by omega, by omega, by omega⟩, g1⟩
              · refine wpS_bind (wpS_elemB ha (by omega) fun q3 hq3 kq3 => ?_)
                refine wpS_iteB (fun e => wpS_pure (.inl ⟨_, _, rfl, (((L).b (by omega) hq1).a (by omega) hq3).all, g1⟩)) fun ne5 => ?_
                refine wpS_ite (fun _ => wpS_pure (.inr ⟨_, _, _, _, _, _, rfl, ⟨((L).b (by omega) hq1).a (by omega) hq3, by omega, by omega, by omega, by omega, by omega⟩, g1⟩)) fun _ => wpS_pure ⟨_, _, _, _, _, _, rfl, ⟨((L).b (by omega) hq1).a (by omega) hq3, by omega, by omega, by omega, by omega, by omega⟩, g1⟩
        · rintro c st3 z; exact .inr z
        · rintro c st3 (⟨r, y, rfl, p, g⟩ | ⟨out, na, nb, mg, ac, bc, rfl, m, g⟩)
          · exact wpS_pure ⟨_, _, rfl, p, g⟩
          · exact wpS_bind (wpS_setMin g fun st4 g4 => wpS_pure ⟨_, _, _, _, rfl, m, g4⟩)

theorem wpS_set {st st1 : SortSt} {M : Model} {Q : PUnit → SortSt → Prop} (h : Q ⟨⟩ st1) : wpS M A E s (set st1 : StateT SortSt Sem PUnit) Q st := by
  unfold wpS; rw [StateT.run_set]; exact wpAny_pure ⟨rfl, h⟩
theorem keys_ext {xs : Array Keyed} (h : IntKeys xs) (i j : Nat) : IntKeys (xs.extract i j) := fun p hp => by
  rw [ext_list] at hp
  exact h p (List.mem_of_mem_take (List.mem_of_mem_drop hp))
/-- writing ys at place k on -/
theorem put_at (ys : List Keyed) : ∀ (j k : Nat) (xs : Array Keyed), k + j + ys.length ≤ xs.size →
    ((ys.zipIdx j).foldl (fun a (pj : Keyed × Nat) => a.setIfInBounds (k + pj.2) pj.1) xs).toList = xs.toList.take (k + j) ++ ys ++ xs.toList.drop (k + j + ys.length) := by
  induction ys with
  | nil => intro j k xs _; simp
  | cons y ys ih =>
    intro j k xs h
    simp only [List.length_cons] at h
    rw [List.zipIdx_cons, List.foldl_cons, ih (j + 1) k _ (by rw [Array.size_setIfInBounds]; omega)]
    rw [Array.toList_setIfInBounds]
    have hl : k + j < xs.toList.length := by simp; omega
    rw [show k + (j + 1) = (k + j) + 1 by omega, List.take_add_one, List.getElem?_set_self hl]
    rw [List.take_set_of_le (by omega), List.drop_set_of_lt (by omega)]
    simp only [Option.toList_some, List.append_assoc, List.length_cons, List.cons_append, List.nil_append]
    rw [show k + j + 1 + ys.length = k + j + (ys.length + 1) by omega]
theorem three_perm {l : List Keyed} {i j k : Nat} (hij : i ≤ j) (hjk : j ≤ k) {m : List Keyed} (h : m.Perm ((l.take j).drop i ++ (l.take k).drop j)) : (l.take i ++ m ++ l.drop k).Perm l := by
  have e : l = l.take i ++ ((l.take j).drop i ++ (l.take k).drop j) ++ l.drop k := by
    have e1 : l.take j = l.take i ++ (l.take j).drop i := by
      have := List.take_append_drop i (l.take j)
      rw [List.take_take, Nat.min_eq_left hij] at this; exact this.symm
    have e2 : l.take k = l.take j ++ (l.take k).drop j := by
      have := List.take_append_drop j (l.take k)
      rw [List.take_take, Nat.min_eq_left hjk] at this; exact this.symm
    rw [← List.append_assoc, ← e1, ← e2, List.take_append_drop]
  conv => rhs; rw [e]
  exact (h.append_left _).append_right _
theorem mergeAt_ok {i : Nat} {pe : Array (Nat × Nat × Nat)} {st : SortSt} {Q : Bool → SortSt → Prop} {sa na pw sb nb pw2 : Nat} (h0 : IntKeys a0) (hB : G a0 pe st) (h1 : pe[i]? = some (sa, na, pw)) (h2 : pe[i + 1]? = some (sb, nb, pw2))
    (hs : sb = sa + na) (hn1 : 1 ≤ na) (hn2 : 1 ≤ nb) (hz : sb + nb ≤ a0.size)
    (h : ∀ st', G a0 ((pe.setIfInBounds i (sa, na + nb, pw)).eraseIdxIfInBounds (i + 1)) st' → Q true st') : wpS (model prog w) A E s (mergeAt' i) Q st := by
  show wpS _ _ _ _ (_ >>= _) _ _
  refine wpS_bind (wpS_get ?_)
  have hpe : pendingOf st = pe := hB.2
  have hsz := hB.1.size
  have hk := hB.1.keys h0
  rw [show (sortPriv% PySem.Builtin.SortState.pending) st = pe from hB.2, h1, h2]
  dsimp only
  have hxs : arrOf st = arrOf st := rfl
  have hsz2 : ((sortPriv% PySem.Builtin.SortState.a) st).size = a0.size := hsz
  have hpa : ∀ p, (pe.setIfInBounds i (sa, na + nb, pw)).eraseIdxIfInBounds (i + 1) = p → G a0 p (setPending st p) := fun p _ => ⟨⟨hB.1.perm, hB.1.kind, hB.1.failed⟩, rfl⟩
  generalize hp : (pe.setIfInBounds i (sa, na + nb, pw)).eraseIdxIfInBounds (i + 1) = p at *
  have g1 := hpa p rfl
  refine wpS_bind (wpS_set ?_)
  refine wpS_bind (wpS_elemB hk (by omega) fun q1 hq1 kq1 => ?_)
  refine wpS_bind (gallop_ok g1.1.kind kq1 hk (by omega) (by omega) fun k hkn => ?_)
  dsimp only
  refine wpS_iteB (fun _ => wpS_pure (h _ g1)) fun ne1 => ?_
  refine wpS_bind (wpS_elemB hk (by omega) fun q2 hq2 kq2 => ?_)
  refine wpS_bind (gallop_ok g1.1.kind kq2 hk (by omega) (by omega) fun k2 hk2 => ?_)
  dsimp only
  have fin : ∀ k2, k2 ≤ nb → k2 ≠ 0 → ∀ (out : Array Keyed) (st2 : SortSt), GX a0 p (arrOf st) st2 → out.toList.Perm (((arrOf st).extract (sa + k) sb).toList ++ ((arrOf st).extract sb (sb + k2)).toList) →
      Q (failedOf (setArr st2 (out.toList.zipIdx.foldl (fun a (x : Keyed × Nat) => a.setIfInBounds (sa + k + x.2) x.1) (arrOf st2)))).isNone (setArr st2 (out.toList.zipIdx.foldl (fun a (x : Keyed × Nat) => a.setIfInBounds (sa + k + x.2) x.1) (arrOf st2))) := by
    intro k2 hk2 ne2 out st2 g2 p2
    have hf : failedOf st2 = none := g2.1.1.failed
    have hq : Q (failedOf st2).isNone (setArr st2 (out.toList.zipIdx.foldl (fun a (x : Keyed × Nat) => a.setIfInBounds (sa + k + x.2) x.1) (arrOf st2))) := by
      rw [hf]
      refine h _ ⟨⟨?_, g2.1.1.kind, g2.1.1.failed⟩, g2.1.2⟩
      refine Array.Perm.trans ?_ g2.1.1.perm
      show (out.toList.zipIdx.foldl (fun a (x : Keyed × Nat) => a.setIfInBounds (sa + k + x.2) x.1) (arrOf st2)).Perm (arrOf st2)
      rw [g2.2]
      rw [Array.perm_iff_toList_perm]
      have hlen : out.toList.length = sb + k2 - (sa + k) := by
        rw [p2.length_eq, List.length_append, Array.length_toList, Array.length_toList, Array.size_extract, Array.size_extract]; omega
      have e := put_at out.toList 0 (sa + k) (arrOf st) (by omega)
      rw [e]
      rw [ext_list, ext_list] at p2
      have e2 : sa + k + 0 + out.toList.length = sb + k2 := by omega
      rw [e2, Nat.add_zero]
      exact three_perm (by omega) (by omega) p2
    exact hq
  refine wpS_iteB (fun _ => wpS_pure (h _ g1)) fun ne2 => ?_
  refine wpS_ite (fun _ => ?_) fun _ => ?_
  · refine wpS_bind (mergeLo_ok (a0 := a0) (xs := arrOf st) ⟨g1, hxs⟩ (keys_ext hk _ _) (keys_ext hk _ _) (by rw [Array.size_extract]; omega) (by rw [Array.size_extract]; omega) fun out st2 g2 p2 => ?_)
    refine wpS_bind (wpS_modify (wpS_bind (wpS_get (wpS_pure ?_))))
    exact fin k2 hk2 ne2 out st2 g2 p2
  · refine wpS_bind (mergeHi_ok (a0 := a0) (xs := arrOf st) ⟨g1, hxs⟩ (keys_ext hk _ _) (keys_ext hk _ _) (by rw [Array.size_extract]; omega) (by rw [Array.size_extract]; omega) fun out st2 g2 p2 => ?_)
    refine wpS_bind (wpS_modify (wpS_bind (wpS_get (wpS_pure ?_))))
    exact fin k2 hk2 ne2 out st2 g2 p2

/-- the runs stand one behind the other -/
def Segs : Nat → List (Nat × Nat × Nat) → Nat → Prop
  | s, [], e => s = e
  | s, (a, n, _) :: r, e => a = s ∧ 1 ≤ n ∧ Segs (s + n) r e
theorem Segs.le : ∀ {s : Nat} {l : List (Nat × Nat × Nat)} {e : Nat}, Segs s l e → s ≤ e
  | _, [], _, h => Nat.le_of_eq h
  | _, (_, _, _) :: _, _, h => by have := Segs.le h.2.2; omega
theorem Segs.two : ∀ {s : Nat} {l : List (Nat × Nat × Nat)} {e i : Nat} {x y : Nat × Nat × Nat}, Segs s l e → l[i]? = some x → l[i + 1]? = some y →
    y.1 = x.1 + x.2.1 ∧ 1 ≤ x.2.1 ∧ 1 ≤ y.2.1 ∧ y.1 + y.2.1 ≤ e ∧ Segs s ((l.set i (x.1, x.2.1 + y.2.1, x.2.2)).eraseIdx (i + 1)) e
  | _, [], _, _, _, _, _, h1, _ => by simp at h1
  | _, [_], _, 0, _, _, _, _, h2 => by simp at h2
  | s, (a, n, p) :: (b, m, q) :: r, e, 0, x, y, h, h1, h2 => by
    simp at h1 h2
    subst h1 h2
    obtain ⟨rfl, h3, rfl, h4, h5⟩ := h
    have := h5.le
    refine ⟨rfl, h3, h4, by show a + n + m ≤ e; omega, ?_⟩
    show Segs a ((a, n + m, p) :: r) e
    exact ⟨rfl, by omega, by rw [show a + (n + m) = a + n + m by omega]; exact h5⟩
  | s, (a, n, p) :: r, e, i + 1, x, y, h, h1, h2 => by
    obtain ⟨rfl, h3, h5⟩ := h
    obtain ⟨q1, q2, q3, q4, q5⟩ := Segs.two (i := i) (x := x) (y := y) h5 (by simpa using h1) (by simpa using h2)
    exact ⟨q1, q2, q3, q4, rfl, h3, q5⟩
theorem Segs.mod (pw : Nat) : ∀ {s : Nat} {l : List (Nat × Nat × Nat)} {e : Nat} (i : Nat), Segs s l e → Segs s (l.modify i fun (st, len, _) => (st, len, pw)) e
  | _, [], _, i, h => by cases i <;> exact h
  | _, (_, _, _) :: _, _, 0, h => h
  | _, (_, _, _) :: _, _, i + 1, h => ⟨h.1, h.2.1, Segs.mod pw i h.2.2⟩
theorem Segs.snoc (n p : Nat) (hn : 1 ≤ n) : ∀ {s : Nat} {l : List (Nat × Nat × Nat)} {e : Nat}, Segs s l e → Segs s (l ++ [(e, n, p)]) (e + n)
  | _, [], _, h => ⟨h.symm, hn, by show _ = _; rw [show _ = _ from h]⟩
  | _, (_, _, _) :: _, _, h => ⟨h.1, h.2.1, Segs.snoc n p hn h.2.2⟩
/-- a good state whose runs reach to e -/
def GP (a0 : Array Keyed) (e : Nat) (st : SortSt) : Prop := SI a0 st ∧ Segs 0 (pendingOf st).toList e
theorem merge_ok {i e : Nat} {st : SortSt} {Q : Bool → SortSt → Prop} (h0 : IntKeys a0) (hB : GP a0 e st) (he : e ≤ a0.size) (hi : i + 1 < (pendingOf st).size) (h : ∀ st', GP a0 e st' → Q true st') : wpS (model prog w) A E s (mergeAt' i) Q st := by
  obtain ⟨⟨sa, na, pw⟩, hx⟩ : ∃ x, (pendingOf st)[i]? = some x := ⟨_, getElem?_pos _ i (by omega)⟩
  obtain ⟨⟨sb, nb, pw2⟩, hy⟩ : ∃ x, (pendingOf st)[i + 1]? = some x := ⟨_, getElem?_pos _ (i + 1) hi⟩
  obtain ⟨q1, q2, q3, q4, q5⟩ := hB.2.two (i := i) (x := (sa, na, pw)) (y := (sb, nb, pw2)) (by simpa using hx) (by simpa using hy)
  refine mergeAt_ok h0 ⟨hB.1, rfl⟩ hx hy q1 q2 q3 (Nat.le_trans q4 he) fun st' g => h st' ⟨g.1, ?_⟩
  rw [g.2, Array.toList_eraseIdxIfInBounds, Array.toList_setIfInBounds]
  exact q5
theorem ite_lt2 {c : Prop} [Decidable c] {x y z : Nat} (h1 : x + 1 < z) (h2 : y + 1 < z) : (if c then x else y) + 1 < z := by
  by_cases h : c <;> simp [h, h1, h2]
theorem runs_ok {st : SortSt} {Q : Unit → SortSt → Prop} (h0 : IntKeys a0) (hB : SI a0 st) (hp : pendingOf st = #[]) (h : ∀ st', SI a0 st' → Q () st') : wpS (model prog w) A E s sortRuns' Q st := by
  rw [sortRuns'_eq]
  refine wpS_bind (wpS_get ?_)
  dsimp only
  rw [hB.size]
  generalize minRun' a0.size a0.size 0 = mr
  refine wpS_bind (wpS_mono (wpS_forRange (I := fun x c st' => ∃ lo, c = (none, lo) ∧ lo ≤ a0.size ∧ GP a0 lo st') (Q := fun c st' => ∃ lo, c = (none, lo) ∧ lo ≤ a0.size ∧ GP a0 lo st') ?step ?fin ⟨0, rfl, by omega, hB, by rw [hp]; rfl⟩) ?post)
  case fin => rintro c st' z; exact z
  case step =>
    rintro x c st1 _ hx ⟨lo, rfl, hlo, g⟩
    dsimp only
    refine wpS_ite (fun _ => wpS_pure ⟨lo, rfl, hlo, g⟩) fun hlt => ?_
    refine wpS_bind (count_ok h0 (by omega) (by omega) (pe := pendingOf st1) ⟨g.1, rfl⟩ fun m st2 g2 hm1 hm2 => ?_)
    have G2 : GP a0 lo st2 := ⟨g2.1, by rw [g2.2]; exact g.2⟩
    dsimp only
    refine wpS_ite (fun hmr => ?_) fun hmr => ?_
    · refine wpS_bind (wpS_lift (wpAny_rule ⟨rfl, ?_⟩))
      refine wpS_bind (bins_ok h0 (by omega) g2 fun st' g3 => ?_)
      have G3 : GP a0 lo st' := ⟨g3.1, by rw [g3.2]; exact g.2⟩
      rw [if_neg (by decide)]
      obtain ⟨nn, hnn⟩ : ∃ nn, nn = min (a0.size - lo) mr := ⟨_, rfl⟩
      rw [← hnn]
      have hn1 : 1 ≤ nn := by omega
      have hn2 : lo + nn ≤ a0.size := by omega
      refine wpS_bind (wpS_get ?_)
      have fin : ∀ st2 : SortSt, GP a0 lo st2 → GP a0 (lo + nn) (setPending st2 ((pendingOf st2).push (lo, nn, 0))) := fun st2 g2 => by
        refine ⟨⟨g2.1.perm, g2.1.kind, g2.1.failed⟩, ?_⟩
        show Segs 0 ((pendingOf st2).push (lo, nn, 0)).toList (lo + nn)
        rw [Array.toList_push]
        exact g2.2.snoc nn 0 hn1
      cases hbk : (pendingOf st').back? with
      | none => exact wpS_bind (wpS_modify (wpS_pure ⟨_, rfl, hn2, fin _ G3⟩))
      | some t =>
        obtain ⟨s1, n1, p1⟩ := t
        dsimp only
        refine wpS_bind (wpS_mono (wpS_forRange (I := fun _ c st2 => c = (none, ()) ∧ GP a0 lo st2) (Q := fun c st2 => c = (none, ()) ∧ GP a0 lo st2) ?_ ?_ ⟨rfl, G3⟩) ?_)
        · rintro y c st2 _ _ ⟨rfl, g2⟩
          refine wpS_bind (wpS_get ?_)
          by_cases hp1 : (pendingOf st2).size > 1
          · rw [if_pos hp1]
            obtain ⟨⟨a1, a2, older⟩, hx⟩ : ∃ x, (pendingOf st2)[(pendingOf st2).size - 2]? = some x := ⟨_, getElem?_pos _ _ (by omega)⟩
            rw [hx]
            dsimp only
            refine wpS_ite (fun _ => wpS_pure ⟨rfl, g2⟩) fun _ => ?_
            refine wpS_bind (merge_ok h0 g2 hlo (by omega) fun st3 g3 => ?_)
            exact wpS_pure ⟨rfl, g3⟩
          · rw [if_neg hp1]
            exact wpS_pure ⟨rfl, g2⟩
        · rintro c st2 z; exact z
        · rintro c st2 ⟨rfl, g2⟩
          refine wpS_bind (wpS_modify (wpS_bind (wpS_modify (wpS_pure ⟨_, rfl, hn2, fin _ ⟨⟨g2.1.perm, g2.1.kind, g2.1.failed⟩, ?_⟩⟩))))
          show Segs 0 ((pendingOf st2).modify _ _).toList lo
          rw [Array.toList_modify]
          exact g2.2.mod _ _
    · obtain ⟨nn, hnn⟩ : ∃ nn, nn = m := ⟨_, rfl⟩
      rw [← hnn]
      have hn1 : 1 ≤ nn := by omega
      have hn2 : lo + nn ≤ a0.size := by omega
      obtain ⟨st', hst'⟩ : ∃ st', st' = st2 := ⟨_, rfl⟩
      rw [← hst'] at G2 ⊢
      refine wpS_bind (wpS_get ?_)
      have fin : ∀ st2 : SortSt, GP a0 lo st2 → GP a0 (lo + nn) (setPending st2 ((pendingOf st2).push (lo, nn, 0))) := fun st2 g2 => by
        refine ⟨⟨g2.1.perm, g2.1.kind, g2.1.failed⟩, ?_⟩
        show Segs 0 ((pendingOf st2).push (lo, nn, 0)).toList (lo + nn)
        rw [Array.toList_push]
        exact g2.2.snoc nn 0 hn1
      cases hbk : (pendingOf st').back? with
      | none => exact wpS_bind (wpS_modify (wpS_pure ⟨_, rfl, hn2, fin _ G2⟩))
      | some t =>
        obtain ⟨s1, n1, p1⟩ := t
        dsimp only
        refine wpS_bind (wpS_mono (wpS_forRange (I := fun _ c st2 => c = (none, ()) ∧ GP a0 lo st2) (Q := fun c st2 => c = (none, ()) ∧ GP a0 lo st2) ?_ ?_ ⟨rfl, G2⟩) ?_)
        · rintro y c st2 _ _ ⟨rfl, g2⟩
          refine wpS_bind (wpS_get ?_)
          by_cases hp1 : (pendingOf st2).size > 1
          · rw [if_pos hp1]
            obtain ⟨⟨a1, a2, older⟩, hx⟩ : ∃ x, (pendingOf st2)[(pendingOf st2).size - 2]? = some x := ⟨_, getElem?_pos _ _ (by omega)⟩
            rw [hx]
            dsimp only
            refine wpS_ite (fun _ => wpS_pure ⟨rfl, g2⟩) fun _ => ?_
            refine wpS_bind (merge_ok h0 g2 hlo (by omega) fun st3 g3 => ?_)
            exact wpS_pure ⟨rfl, g3⟩
          · rw [if_neg hp1]
            exact wpS_pure ⟨rfl, g2⟩
        · rintro c st2 z; exact z
        · rintro c st2 ⟨rfl, g2⟩
          refine wpS_bind (wpS_modify (wpS_bind (wpS_modify (wpS_pure ⟨_, rfl, hn2, fin _ ⟨⟨g2.1.perm, g2.1.kind, g2.1.failed⟩, ?_⟩⟩))))
          show Segs 0 ((pendingOf st2).modify _ _).toList lo
          rw [Array.toList_modify]
          exact g2.2.mod _ _
  case post =>
    rintro c st1 ⟨lo, rfl, hlo, g⟩
    dsimp only
    refine wpS_bind (wpS_mono (wpS_forRange (I := fun _ c st2 => c = (none, ()) ∧ GP a0 lo st2) (Q := fun c st2 => c = (none, ()) ∧ GP a0 lo st2) ?_ ?_ ⟨rfl, g⟩) ?_)
    · rintro y c st2 _ _ ⟨rfl, g2⟩
      refine wpS_bind (wpS_get ?_)
      refine wpS_ite (fun _ => wpS_pure ⟨rfl, g2⟩) fun hsz => ?_
      refine wpS_bind (merge_ok h0 g2 hlo (ite_lt2 (by omega) (by omega)) fun st3 g3 => ?_)
      exact wpS_pure ⟨rfl, g3⟩
    · rintro c st2 z; exact z
    · rintro c st2 ⟨rfl, g2⟩
      exact wpS_pure (h _ g2.1)

theorem ints_out {vs : List Value} {ns : List Int} (hI : IntsAre vs ns) {xs : Array Keyed} (hp : xs.Perm (pairsOf vs)) : ∃ ns', IntsAre (xs.map (·.2)).toList ns' ∧ ns'.Perm ns := by
  have hl : xs.toList.Perm (vs.zip vs) := by rw [← pairsOf_toList]; exact Array.perm_iff_toList_perm.mp hp
  have hmem : ∀ p, p ∈ xs.toList → p.1 = p.2 ∧ p.1 ∈ vs := fun p hp' => mem_zip_self (hl.mem_iff.mp hp')
  refine ⟨xs.toList.map (fun p => numOf p.1), ?_, ?_⟩
  · have e : (xs.map (·.2)).toList = xs.toList.map (·.1) := by
      rw [Array.toList_map]; exact List.map_congr_left fun p hp' => (hmem p hp').1.symm
    rw [e]
    have h1 := intsAre_map (xs.toList.map (·.1)) (by
      intro v hv
      obtain ⟨p, hp', rfl⟩ := List.mem_map.mp hv
      exact hI.all _ (hmem p hp').2)
    rwa [List.map_map] at h1
  · have h1 := hl.map (fun p => numOf p.1)
    have e2 : (vs.zip vs).map (fun p => numOf p.1) = ns := by
      have : (vs.zip vs).map (fun p => numOf p.1) = ((vs.zip vs).map Prod.fst).map numOf := by rw [List.map_map]; rfl
      rw [this, List.map_fst_zip (Nat.le_refl _), hI.nums]
    rwa [e2] at h1
theorem sort_any {a : Addr} {vs : List Value} {ns : List Int} {n : Nat} {P : PySem.Fin → Shared → Prop} (ho : s.heap.get? a = some (seqObj "list" vs.toArray n))
    (hI : IntsAre vs ns) (h64 : vs.length ≤ 1000)
    (h : ∀ (out : Array Value) (ns' : List Int), IntsAre out.toList ns' → ns'.Perm ns → P (.done (.ret .none)) { s with heap := sortedHeap s.heap a vs out }) :
    wpAny (model prog w) A (Builtin.«list.sort» ⟨[.ref a], []⟩) P E s := by
  rw [list_sort_plain]
  have ha : a < s.heap.objs.size := Heap.lt_size ho
  refine wpAny_bind (listItems_at ho rfl ?_)
  refine wpAny_bind (listUpdate_at ho rfl ?_ (by rw [sizeLine_eq]; simp; omega) (by simp))
  obtain ⟨e1, ho1⟩ : ∃ e1, (s.heap.update a (Obj.mapSeq fun _ => #[])).get? a = some (seqObj "list" #[] e1) := ⟨_, get?_update_seq ho (fun _ => #[])⟩
  refine wpAny_bind (seqEpoch_at ho1 rfl ?_)
  refine wpAny_bind (wpAny_newTuple ?_ (by rw [sizeLine_eq]; simp; omega))
  refine wpAny_bind (wpAny_newList ?_)
  refine wpAny_holding ?_
  have ho6 : (((s.heap.update a (Obj.mapSeq fun _ => #[])).push (seqObj "tuple" vs.toArray 0)).push (seqObj "list" #[] 0)).get? a = some (seqObj "list" #[] e1) := by
    rw [Heap.get?_push_ne _ _ _ (by rw [size_push', Heap.size_update]; exact Nat.ne_of_lt (Nat.lt_succ_of_lt ha)), Heap.get?_push_ne _ _ _ (by rw [Heap.size_update]; exact Nat.ne_of_lt ha)]
    exact ho1
  show wpAny (model prog w) A _ P E { s with heap := ((s.heap.update a (Obj.mapSeq fun _ => #[])).push (seqObj "tuple" vs.toArray 0)).push (seqObj "list" #[] 0) }
  dsimp only
  have hsz : vs.toArray.size = vs.length := by simp
  have fin : ∀ st' : SortSt, (arrOf st').Perm (pairsOf vs) → P (.done (.ret .none)) { s with heap := sortedHeap s.heap a vs ((arrOf st').map (·.2)) } := by
    intro st' hp
    obtain ⟨ns', h1, h2⟩ := ints_out hI hp
    exact h _ ns' h1 h2
  by_cases h2 : vs.toArray.size < 2
  · rw [if_pos h2, if_pos h2]
    refine wpAny_bind (wpAny_pure ?_)
    rw [StateT.run_pure]
    refine wpAny_bind (wpAny_pure ?_)
    dsimp only
    refine wpAny_bind (seqEpoch_at ho6 rfl ?_)
    refine wpAny_bind (listUpdate_at ho6 rfl ?_ (hsz2 := by rw [Array.size_map]; show (pairsOf vs).size ≤ _; rw [pairsOf_size, sizeLine_eq]; omega))
    simp only [bne_self_eq_false, Bool.false_eq_true, if_false]
    exact wpAny_pure (fin (SortSt.mk' general' (vs.toArray.zip vs.toArray) #[] 7 none) (Array.Perm.refl _))
  · rw [if_neg h2, if_neg h2]
    obtain ⟨v₁, v₂, rest, rfl⟩ : ∃ v₁ v₂ rest, vs = v₁ :: v₂ :: rest := by
      match vs, hsz, h2 with
      | [], _, h2 => simp at h2
      | [_], _, h2 => simp at h2
      | v₁ :: v₂ :: rest, _, _ => exact ⟨v₁, v₂, rest, rfl⟩
    rw [keyKind_ints hI]
    refine wpAny_bind (wpAny_pure ?_)
    refine wpAny_bind (wpAny_mono (runs_ok (a0 := pairsOf (v₁ :: v₂ :: rest)) (st := SortSt.mk' oneType' ((v₁ :: v₂ :: rest).toArray.zip (v₁ :: v₂ :: rest).toArray) #[] 7 none)
      (Q := fun _ st' => SI (pairsOf (v₁ :: v₂ :: rest)) st')
      hI.intKeys ⟨Array.Perm.refl _, rfl, rfl⟩ rfl fun st' a1 => a1) ?_ fun _ _ e => e)
    rintro ⟨⟨⟩, st'⟩ s' ⟨rfl, hS⟩
    have hp := hS.perm
    have hf := hS.failed
    dsimp only
    refine wpAny_bind (seqEpoch_at ho6 rfl ?_)
    refine wpAny_bind (listUpdate_at ho6 rfl ?_ (hsz2 := by refine Nat.le_trans (Nat.le_of_eq ((Array.size_map ..).trans (hp.size_eq.trans (pairsOf_size _)))) ?_; rw [sizeLine_eq]; omega))
    rw [hf]
    simp only [bne_self_eq_false, Bool.false_eq_true, if_false]
    exact wpAny_pure (fin st' hp)
theorem sorted_any {l : Addr} {vs : List Value} {ns : List Int} {Q : Value → Shared → Prop} (hl : s.heap.IsList l vs.toArray) (hI : IntsAre vs ns) (h64 : vs.length ≤ 1000)
    (h : ∀ (out : Array Value) (ns' : List Int), IntsAre out.toList ns' → ns'.Perm ns → Q (.ref (s.heap.objs.size + 1)) { s with heap := sortedAll s.heap vs out }) :
    wpAny (model prog w) A (call (.builtin "sorted") [.ref l]) Q E s := by
  refine Calls.call_function_entry kind_sorted plain_sorted entry_sorted (args_sorted1 _) ?_
  unfold Builtin.«sorted»
  refine wpAny_bind (m := checkCount "sorted" 1 1 _) (wpAny_pure ?_)
  refine wpAny_bind (collect_list hl ?_ (by rw [sizeLine_eq]; omega))
  refine wpAny_bind (wpAny_newList ?_ (by rw [sizeLine_eq]; omega))
  have hsz : ((s.heap.push (seqObj "list" #[] 0)).update s.heap.objs.size (Obj.mapSeq (· ++ vs.toArray))).objs.size = s.heap.objs.size + 1 := by
    rw [Heap.size_update, size_push']
  have hoL : (((s.heap.push (seqObj "list" #[] 0)).update s.heap.objs.size (Obj.mapSeq (· ++ vs.toArray))).push (seqObj "list" vs.toArray 0)).get? (s.heap.objs.size + 1) = some (seqObj "list" vs.toArray 0) := by
    rw [← hsz]; exact Heap.get?_push_size _ rfl
  show wpAny _ _ _ _ _ { s with heap := ((s.heap.push (seqObj "list" #[] 0)).update s.heap.objs.size (Obj.mapSeq (· ++ vs.toArray))).push (seqObj "list" vs.toArray 0) }
  rw [hsz]
  refine wpAny_bind (wpAny_holding (wpAny_call_entry slot_list_sort ⟨_, hoL, rfl⟩ entry_list_sort (sort_any hoL hI h64 fun out ns' a1 a2 => ⟨_, rfl, ?_⟩) (args_list_sort _)))
  exact wpAny_pure ⟨_, rfl, h out ns' a1 a2⟩
end
end SB

set_option Elab.async false
set_option maxRecDepth 100000
set_option maxHeartbeats 4000000
namespace L2
open PySem PySem.Spec PyProof.Rows
section
variable {X : Cx}
/-! ### floor division by a number that is not too great -/
theorem log2_small {y : Int} (h0 : 0 < y) (h : y < 2 ^ 200) : y.natAbs.log2 < 9000 := by
  have h1 : y.natAbs ≠ 0 := by omega
  have h2 : y.natAbs.log2 < 200 := (Nat.log2_lt h1).mpr (by omega)
  omega
theorem op_fdivL : OpR X (binaryOp .FloorDiv) (rI (fun _ j => 0 < j ∧ j < 2 ^ 200) fun i j => .int (i / j)) := opI fun i j _ _ _ _ _ hc q => by
  refine floordiv_int (by omega) ?_ (.inl (PyProof.noPylong_of_log2 (log2_small hc.1 hc.2)))
  rw [Int.fdiv_eq_ediv_of_nonneg i (by omega)]
  exact q
/-! ### sum, max, min, sorted of a list of ints -/
theorem call_sum (hc : X.calm = true) : CallR X (.builtin "sum") (fun xs H Q => ∃ (p : Addr) (ns : List Int), xs = [.ref p] ∧ SqL X.K H p (ns.map V.int) ∧ Q (.int ns.sum) H) := by
  intro pins s σ H xs us Q I r h
  obtain ⟨p, ns, rfl, hq, q⟩ := h
  obtain ⟨u, rfl, rx⟩ := vals1 r
  cases rx
  obtain ⟨its, r', pl, hz⟩ := I.list hq
  have hi := intsAre_of r'
  obtain ⟨xs, e⟩ := hi.allInts.items
  have hns : ns = xs.toList.map (·.1) := by rw [← hi.numsOf, ← nums_intItems, ← e]
  have hl := pl.isList
  rw [e] at hl
  refine sum_intListG (I.ok.hd hc) hl fun h' tk t' hk => ⟨.int ns.sum, H, I.kept hk, ⟨t', ?_⟩, q⟩
  rw [preSum_eq, List.take_of_length_le (by simp), hns]
theorem call_max (hc : X.calm = true) : CallR X (.builtin "max") (fun xs H Q => ∃ (p : Addr) (ns : List Int), xs = [.ref p] ∧ SqL X.K H p (ns.map V.int) ∧ ns ≠ [] ∧ ∀ M, M ∈ ns → (∀ a, a ∈ ns → a ≤ M) → Q (.int M) H) := by
  intro pins s σ H xs us Q I r h
  obtain ⟨p, ns, rfl, hq, hne, q⟩ := h
  obtain ⟨u, rfl, rx⟩ := vals1 r
  cases rx
  obtain ⟨its, r', pl, hz⟩ := I.list hq
  have hi := intsAre_of r'
  obtain ⟨xs, e⟩ := hi.allInts.items
  have hns : ns = xs.toList.map (·.1) := by rw [← hi.numsOf, ← nums_intItems, ← e]
  have hl := pl.isList
  rw [e] at hl
  have hsz : 0 < xs.size := by
    have h3 := List.length_pos_iff.mpr hne; rw [hns, List.length_map, Array.length_toList] at h3; exact h3
  refine max_intList (I.ok.hd hc) hl hsz fun v h' tk hv hk => ?_
  obtain ⟨t, rfl⟩ := intItems_at hv
  obtain ⟨h1, h2⟩ := argBest_gt (numAt xs) (xs.size - 1)
  refine ⟨.int _, H, I.kept hk, ⟨t, rfl⟩, q _ ?_ fun a ha => ?_⟩
  · rw [hns, numAt_eq]; exact getD_mem (by rw [List.length_map, Array.length_toList]; omega)
  · rw [hns] at ha
    obtain ⟨j, hj, rfl⟩ := mem_getD ha
    rw [List.length_map, Array.length_toList] at hj
    rw [← numAt_eq]; exact h2 j (by omega)
theorem call_min (hc : X.calm = true) : CallR X (.builtin "min") (fun xs H Q => ∃ (p : Addr) (ns : List Int), xs = [.ref p] ∧ SqL X.K H p (ns.map V.int) ∧ ns ≠ [] ∧ ∀ M, M ∈ ns → (∀ a, a ∈ ns → M ≤ a) → Q (.int M) H) := by
  intro pins s σ H xs us Q I r h
  obtain ⟨p, ns, rfl, hq, hne, q⟩ := h
  obtain ⟨u, rfl, rx⟩ := vals1 r
  cases rx
  obtain ⟨its, r', pl, hz⟩ := I.list hq
  have hi := intsAre_of r'
  obtain ⟨xs, e⟩ := hi.allInts.items
  have hns : ns = xs.toList.map (·.1) := by rw [← hi.numsOf, ← nums_intItems, ← e]
  have hl := pl.isList
  rw [e] at hl
  have hsz : 0 < xs.size := by
    have h3 := List.length_pos_iff.mpr hne; rw [hns, List.length_map, Array.length_toList] at h3; exact h3
  refine min_intList (I.ok.hd hc) hl hsz fun v h' tk hv hk => ?_
  obtain ⟨t, rfl⟩ := intItems_at hv
  obtain ⟨h1, h2⟩ := argBest_lt (numAt xs) (xs.size - 1)
  refine ⟨.int _, H, I.kept hk, ⟨t, rfl⟩, q _ ?_ fun a ha => ?_⟩
  · rw [hns, numAt_eq]; exact getD_mem (by rw [List.length_map, Array.length_toList]; omega)
  · rw [hns] at ha
    obtain ⟨j, hj, rfl⟩ := mem_getD ha
    rw [List.length_map, Array.length_toList] at hj
    rw [← numAt_eq]; exact h2 j (by omega)
theorem call_sorted : CallR X (.builtin "sorted") (fun xs H Q => ∃ (p : Addr) (ns : List Int), xs = [.ref p] ∧ SqL X.K H p (ns.map V.int) ∧ ns.length ≤ 1000 ∧ ∀ (l : Addr) (ns' : List Int), H l = none → ns'.Perm ns → Q (.ref l) (upd H l (.lst (ns'.map V.int)))) := by
  intro pins s σ H xs us Q I r h
  obtain ⟨p, ns, rfl, hq, hle, q⟩ := h
  obtain ⟨u, rfl, rx⟩ := vals1 r
  cases rx
  obtain ⟨its, r', pl, hz⟩ := I.list hq
  have hi := intsAre_of r'
  have hlen := r'.length
  rw [List.length_map] at hlen
  refine SB.sorted_any pl.isList hi (by omega) fun out ns' a1 a2 => ?_
  obtain ⟨e, he⟩ := sortedAll_at s.heap its out
  have hn : H (s.heap.objs.size + 1) = none := I.hok.fresh (Nat.le_succ _)
  refine ⟨.ref (s.heap.objs.size + 1), _, ?_, rfl, q _ ns' hn a2⟩
  refine I.laid (t' := s.toks) (fun _ _ => sortedAll_old) (Nat.le_succ _) (show ObjOk X.prog X.w _ _ _ (.lst _) from ⟨?_, out.toList, e, vals_ints a1, he⟩)
  rw [List.length_map, a2.length_eq, sizeLine_eq]; omega
/-! ### repr -/
/-- what a value reads as, n deep -/
def RV : Nat → Hp → V → PyData → Prop
  | _, _, .non, d => d = .none
  | _, _, .bl b, d => d = .bool b
  | _, _, .int i, d => d = .int i
  | _, _, .str x, d => d = .str x
  | n + 1, H, .ref a, d => (∃ xs ds, Rd H a (.lst xs) ∧ d = .list ds ∧ Paired (RV n H) xs ds) ∨ ∃ xs ds, Rd H a (.tup xs) ∧ d = .tuple ds ∧ Paired (RV n H) xs ds
  | _, _, _, _ => False
theorem readsAll_of {h : Heap} {F : V → PyData → Prop} (hF : ∀ x u d, F x d → RelV x u → ∃ as, Reads h u d as) : ∀ {xs : List V} {us : List Value} {ds : List PyData}, Vals xs us → Paired F xs ds → ∃ as, ReadsAll h us ds as
  | _, _, _, .nil, .nil => ⟨_, .nil⟩
  | _, _, _, .cons r t, .cons f g => by
    obtain ⟨a1, h1⟩ := hF _ _ _ f r
    obtain ⟨a2, h2⟩ := readsAll_of hF t g
    exact ⟨_, .cons h1 h2⟩
theorem rv_reads {pins : List (Addr × Obj)} {σ : St} {H : Hp} {s : Shared} (I : Inv X pins σ H s) : ∀ (n : Nat) (x : V) (u : Value) (d : PyData), RV n H x d → RelV x u → ∃ as, Reads s.heap u d as := by
  intro n
  induction n with
  | zero =>
    intro x u d h r
    cases x with
    | non => cases h; cases r; exact ⟨_, .none⟩
    | bl b => cases h; cases r; exact ⟨_, .bool _⟩
    | int i => cases h; obtain ⟨t, rfl⟩ := r; exact ⟨_, .int _ _⟩
    | str z => cases h; obtain ⟨t, rfl⟩ := r; exact ⟨_, .str _ _⟩
    | _ => exact (show False from h).elim
  | succ n ih =>
    intro x u d h r
    cases x with
    | non => cases h; cases r; exact ⟨_, .none⟩
    | bl b => cases h; cases r; exact ⟨_, .bool _⟩
    | int i => cases h; obtain ⟨t, rfl⟩ := r; exact ⟨_, .int _ _⟩
    | str z => cases h; obtain ⟨t, rfl⟩ := r; exact ⟨_, .str _ _⟩
    | ref a =>
      cases r
      rcases (show (∃ xs ds, Rd H a (.lst xs) ∧ d = .list ds ∧ Paired (RV n H) xs ds) ∨ ∃ xs ds, Rd H a (.tup xs) ∧ d = .tuple ds ∧ Paired (RV n H) xs ds from h) with ⟨xs, ds, h1, rfl, h3⟩ | ⟨xs, ds, h1, rfl, h3⟩
      · obtain ⟨_, its, k, rr, e⟩ := (show ObjOk X.prog X.w H s.heap a (.lst xs) from h1.ok I.hok)
        obtain ⟨as, q⟩ := readsAll_of (ih) rr h3
        exact ⟨_, .list e rfl rfl (by simpa using q)⟩
      · obtain ⟨_, its, rr, o, e, c, k, dd⟩ := (show ObjOk X.prog X.w H s.heap a (.tup xs) from h1.ok I.hok)
        obtain ⟨as, q⟩ := readsAll_of (ih) rr h3
        exact ⟨_, .tuple e c dd (by simpa using q)⟩
    | _ => exact (show False from h).elim
/-- a thing whose repr may be asked -/
structure Shw (d : PyData) : Prop where
  sh : d.showable = true
  nd : d.hasDict = false
  dp : d.depth ≤ 30
  sz : d.shown.length ≤ sizeLine
theorem call_repr {k : Nat} (hr : Room k X.A) : CallR X (.builtin "repr") (fun xs H Q => ∃ x n d, xs = [x] ∧ RV n H x d ∧ Shw d ∧ Q (.str d.shown) H) := by
  intro pins s σ H xs us Q I r h
  obtain ⟨x, n, d, rfl, hv, hd, q⟩ := h
  obtain ⟨u, rfl, rx⟩ := vals1 r
  have flat : ∀ {z : Str}, z = d.shown → ∀ tk, EP X pins σ Q (.str z tk) { s with toks := s.toks + 1 } := fun e tk => ⟨.str d.shown, H, I.tok _, ⟨tk, by rw [e]⟩, q⟩
  obtain ⟨as, rd⟩ := rv_reads I n x u d hv rx
  have hu := hr.units
  cases rd with
  | none => exact PySem.P.repr_of_none (flat (by rw [PyData.shown_none]) _)
  | bool b => exact PySem.P.repr_of_bool (flat (by rw [PyData.shown_bool]) _)
  | int i t => exact PySem.P.repr_of_int (by simpa [PyData.showable] using hd.sh) (flat (by rw [PyData.shown_int]) _)
  | str z t => exact PySem.P.repr_of_str (flat (by rw [PyData.shown_str]) _) (by have := hd.sz; rw [PyData.shown_str] at this; exact this)
  | list e1 e2 e3 e4 =>
    exact repr_of_reads' (.list e1 e2 e3 e4) hd.sh (PyData.noDict_hsm hd.nd) hr.gd (by have := hd.dp; omega) (fun _ _ e => e) (fun h' u tk hk => ⟨.str _, H, I.kept hk, ⟨u, rfl⟩, q⟩) hd.sz
  | tuple e1 e2 e3 e4 =>
    exact repr_of_reads' (.tuple e1 e2 e3 e4) hd.sh (PyData.noDict_hsm hd.nd) hr.gd (by have := hd.dp; omega) (fun _ _ e => e) (fun h' u tk hk => ⟨.str _, H, I.kept hk, ⟨u, rfl⟩, q⟩) hd.sz
  | dict e1 e2 e3 e4 e5 => have := hd.nd; simp [PyData.hasDict] at this
end
end L2

set_option Elab.async false
set_option maxRecDepth 100000
set_option maxHeartbeats 4000000
namespace L2
open PySem PySem.Spec PyProof.Rows
/-! ### comprehensions -/
/-- the context of a comprehension's block: s0, H0 the state with the new list laid, C its names, fp the iterator's records -/
abbrev cxComp (X : Cx) (pins : List (Addr × Obj)) (N' : List Str) (scope : Scope) (cl : List (Str × Addr)) (C : Addr) (s0 : Shared) (H0 : Hp) (fp : List Addr) : Cx :=
  { X with N := N', s₀ := s0, H₀ := H0, env := compEnvC scope cl C X.env, outer := X.stack, ex := fp, fn := fun _ => false, pn := X.pn ++ pins, xe := fun _ _ => False }
theorem find_names {k : NameKind} : ∀ {names : List (Str × NameKind)} {x : Str}, names.lookup x = some k → (x, k) ∈ names
  | (n, j) :: r, x, h => by
    rw [List.lookup_cons] at h
    cases e : x == n with
    | true =>
      rw [e] at h
      cases h
      rw [eq_of_beq e]
      exact List.mem_cons_self
    | false =>
      rw [e] at h
      exact List.mem_cons_of_mem _ (find_names h)
/-- the cells that a block takes along -/
structure Clo (scope : Scope) (env : Env) (cl : List (Str × Addr)) : Prop where
  eq : closureFor scope env = pure cl
  sub : ∀ x c, cl.lookup x = some c → env.cells.lookup x = some c
  has : ∀ x, (x, NameKind.free) ∈ scope.names → ∃ c, cl.lookup x = some c
theorem clo_go {env : Env} : ∀ (names : List (Str × NameKind)) (acc : List (Str × Addr)), (∀ x, (x, NameKind.free) ∈ names → ∃ c, env.cells.lookup x = some c) → (∀ x c, acc.lookup x = some c → env.cells.lookup x = some c) →
    ∃ cl, (forIn names acc fun (y : Str × NameKind) cs => (if y.2 == NameKind.free then do let c ← cellOf env y.1; pure (ForInStep.yield ((y.1, c) :: cs)) else pure (ForInStep.yield cs) : Sem (ForInStep (List (Str × Addr))))) = pure cl ∧
      (∀ x c, cl.lookup x = some c → env.cells.lookup x = some c) ∧ (∀ x, (x, NameKind.free) ∈ names → ∃ c, cl.lookup x = some c) ∧ ∀ x, (∃ c, acc.lookup x = some c) → ∃ c, cl.lookup x = some c
  | [], acc, _, hs => ⟨acc, rfl, hs, fun _ h => by simp at h, fun _ h => h⟩
  | (n, k) :: r, acc, hh, hs => by
    by_cases hk : k = NameKind.free
    · subst hk
      obtain ⟨c, hc⟩ := hh n List.mem_cons_self
      obtain ⟨cl, e, h1, h2, h3⟩ := clo_go r ((n, c) :: acc) (fun x hx => hh x (List.mem_cons_of_mem _ hx)) (fun x c' hx => by
        rw [List.lookup_cons] at hx
        cases en : x == n with
        | true => rw [en] at hx; cases hx; rw [eq_of_beq en]; exact hc
        | false => rw [en] at hx; exact hs x c' hx)
      refine ⟨cl, ?_, h1, fun x hx => ?_, fun x ⟨c', hx⟩ => ?_⟩
      · rw [List.forIn_cons]
        have ec : cellOf env n = pure c := by unfold cellOf; rw [hc]
        simp only [beq_self_eq_true, if_true, ec, pure_bind]
        exact e
      · rcases List.mem_cons.mp hx with hx | hx
        · cases hx
          exact h3 n ⟨c, by rw [List.lookup_cons]; simp⟩
        · exact h2 x hx
      · refine h3 x ?_
        cases en : x == n with
        | true => exact ⟨c, by rw [List.lookup_cons, en]⟩
        | false => exact ⟨c', by rw [List.lookup_cons, en]; exact hx⟩
    · obtain ⟨cl, e, h1, h2, h3⟩ := clo_go r acc (fun x hx => hh x (List.mem_cons_of_mem _ hx)) hs
      refine ⟨cl, ?_, h1, fun x hx => ?_, h3⟩
      · rw [List.forIn_cons]
        have hb : (k == NameKind.free) = false := by simpa using hk
        simp only [hb, Bool.false_eq_true, if_false, pure_bind]
        exact e
      · rcases List.mem_cons.mp hx with hx | hx
        · cases hx; exact absurd rfl hk
        · exact h2 x hx
theorem clo_mk {scope : Scope} {env : Env} (h : ∀ x, (x, NameKind.free) ∈ scope.names → ∃ c, env.cells.lookup x = some c) : ∃ cl, Clo scope env cl := by
  obtain ⟨cl, e, h1, h2, _⟩ := clo_go (env := env) scope.names [] h (fun x c hx => by simp at hx)
  exact ⟨cl, by unfold closureFor; exact (by simpa using e), h1, h2⟩
/-- which slot of the outer names a block's slot takes: all checks on the text -/
def capOk (N' : List Str) (caps : List (Option Nat)) (N : List Str) (names names' : List (Str × NameKind)) : Bool :=
  (N'.length == caps.length) && (N'.zip caps).all (fun p => match p.2 with
    | none => true
    | some j => N[j]? == some p.1 && names'.lookup p.1 == some .free) &&
  names'.all (fun p => p.2 != NameKind.cell && (p.2 != NameKind.free || names.lookup p.1 == some .cell || names.lookup p.1 == some .free) && (p.2 != NameKind.local || names'.lookup p.1 == some .local))
def capSt (caps : List (Option Nat)) (σ : St) : St := caps.map fun o => match o with
  | none => none
  | some j => (σ[j]?).join
theorem relabel_free {env : Env} : ∀ {names : List (Str × NameKind)} {x : Str}, names.lookup x = some .free →
    (names.map fun (n, k) => if (k == NameKind.free && env.scope.kind == .function && env.kindOf n == some .cell) then (n, NameKind.cell) else (n, k)).lookup x = some .cell ∨
    (names.map fun (n, k) => if (k == NameKind.free && env.scope.kind == .function && env.kindOf n == some .cell) then (n, NameKind.cell) else (n, k)).lookup x = some .free
  | (n, k) :: r, x, h => by
    have ih := @relabel_free env r x
    show List.lookup x ((if (k == NameKind.free && env.scope.kind == .function && env.kindOf n == some .cell) = true then (n, NameKind.cell) else (n, k)) :: _) = _ ∨
      List.lookup x ((if (k == NameKind.free && env.scope.kind == .function && env.kindOf n == some .cell) = true then (n, NameKind.cell) else (n, k)) :: _) = _
    cases hx : x == n with
    | true =>
      simp only [List.lookup_cons, hx] at h
      cases h
      by_cases hc : (NameKind.free == NameKind.free && env.scope.kind == .function && env.kindOf n == some .cell) = true
      · rw [if_pos hc]; simp [List.lookup_cons, hx]
      · rw [if_neg hc]; simp [List.lookup_cons, hx]
    | false =>
      simp only [List.lookup_cons, hx] at h
      by_cases hc : (k == NameKind.free && env.scope.kind == .function && env.kindOf n == some .cell) = true
      · rw [if_pos hc]; simp only [List.lookup_cons, hx]; exact ih h
      · rw [if_neg hc]; simp only [List.lookup_cons, hx]; exact ih h
theorem relabel_back {env : Env} : ∀ {names : List (Str × NameKind)} {x : Str}, (∀ p ∈ names, p.2 ≠ .cell) →
    ((names.map fun (n, k) => if (k == NameKind.free && env.scope.kind == .function && env.kindOf n == some .cell) then (n, NameKind.cell) else (n, k)).lookup x = some .cell ∨
     (names.map fun (n, k) => if (k == NameKind.free && env.scope.kind == .function && env.kindOf n == some .cell) then (n, NameKind.cell) else (n, k)).lookup x = some .free) → (x, NameKind.free) ∈ names
  | [], x, _, h => by simp at h
  | (n, k) :: r, x, hc0, h => by
    have ih := @relabel_back env r x (fun p hp => hc0 p (List.mem_cons_of_mem _ hp))
    have hk0 : k ≠ .cell := hc0 (n, k) List.mem_cons_self
    rw [List.map_cons] at h
    generalize (r.map fun (x : Str × NameKind) => match x with | (n, k) => if (k == NameKind.free && env.scope.kind == ScopeKind.function && env.kindOf n == some NameKind.cell) = true then (n, NameKind.cell) else (n, k)) = R at h ih
    dsimp only at h
    by_cases hc : (k == NameKind.free && env.scope.kind == .function && env.kindOf n == some .cell) = true
    · rw [if_pos hc] at h
      cases hx : x == n with
      | true =>
        have hkf : k = .free := by
          rw [Bool.and_eq_true, Bool.and_eq_true] at hc
          exact eq_of_beq hc.1.1
        rw [eq_of_beq hx, hkf]; exact List.mem_cons_self
      | false =>
        rw [List.lookup_cons, hx] at h
        exact List.mem_cons_of_mem _ (ih h)
    · rw [if_neg hc] at h
      cases hx : x == n with
      | true =>
        rw [List.lookup_cons, hx] at h
        rcases h with h | h
        · exact absurd (Option.some.inj h) hk0
        · rw [eq_of_beq hx, Option.some.inj h]; exact List.mem_cons_self
      | false =>
        rw [List.lookup_cons, hx] at h
        exact List.mem_cons_of_mem _ (ih h)
section
variable {X : Cx} {pins : List (Addr × Obj)} {σ : St} {H : Hp} {s : Shared}
/-- at a block's entry -/
theorem comp_start {N' : List Str} {caps : List (Option Nat)} {scope : Scope} {cl : List (Str × Addr)} {fp : List Addr} {h1 : Heap} {tk : Nat} (I : Inv X pins σ H s) (hfp : ∀ b ∈ fp, FpOk X pins H b) (hfo : ∀ b ∈ fp, ∃ o, s.heap.get? b = some o)
    (hcap : capOk N' caps X.N X.env.scope.names scope.names = true) (hkind : scope.kind = .function) (hC : Clo scope X.env cl)
    (hns : h1.Ns (s.heap.objs.size + 1) fun _ => none) (hsb : Heap.SameBut (s.heap.objs.size + 1) ((s.heap.push { cls := .type "list", data := .seq #[] }).push { cls := .type "dict", data := .dict #[] }) h1) :
    Inv (cxComp X pins N' scope cl (s.heap.objs.size + 1) { s with heap := s.heap.push { cls := .type "list", data := .seq #[] } } (upd H s.heap.objs.size (.lst [])) fp) [] (capSt caps σ) (upd H s.heap.objs.size (.lst [])) { s with heap := h1, toks := tk } := by
  have hn : H s.heap.objs.size = none := I.hok.fresh (Nat.le_refl _)
  have hz : (s.heap.push { cls := .type "list", data := .seq #[] }).objs.size = s.heap.objs.size + 1 := Heap.size_push ..
  have up1 : ∀ b o, s.heap.get? b = some o → (s.heap.push { cls := .type "list", data := .seq #[] }).get? b = some o := fun b o e => Heap.get?_push_of_some _ e
  have up2 : ∀ b o, (s.heap.push { cls := .type "list", data := .seq #[] }).get? b = some o → h1.get? b = some o := fun b o e => by
    have hb : b < s.heap.objs.size + 1 := by rw [← hz]; exact Heap.lt_size e
    exact hsb.extBut b o (Nat.ne_of_lt hb) (Heap.get?_push_of_some _ e)
  have I1 : Inv X pins σ (upd H s.heap.objs.size (.lst [])) { s with heap := s.heap.push { cls := .type "list", data := .seq #[] }, toks := s.toks } :=
    I.laid (t' := s.toks) up1 (Nat.le_refl _) (show ObjOk X.prog X.w _ _ _ (.lst []) from ⟨Nat.zero_le _, [], 0, .nil, Heap.get?_push_size _ rfl⟩)
  obtain ⟨hcap1, hcap3⟩ := Bool.and_eq_true_iff.mp hcap
  obtain ⟨hcap1, hcap2⟩ := Bool.and_eq_true_iff.mp hcap1
  have hlen : N'.length = caps.length := by simpa using hcap1
  have hcap3' := List.all_eq_true.mp hcap3
  have nocell : ∀ p ∈ scope.names, p.2 ≠ NameKind.cell := fun p hp => by
    have := hcap3' p hp
    simp only [Bool.and_eq_true, bne_iff_ne] at this
    exact this.1.1
  have hsub := I.stkSub
  have ltS : ∀ b o, s.heap.get? b = some o → b < s.heap.objs.size := fun b o e => Heap.lt_size e
  refine ⟨⟨I.ok.mod, hkind, I.ok.glob, I.ok.blt, Nat.le_of_eq hz, fun x y c e1 e2 => I.ok.inj x y c (hC.sub x c e1) (hC.sub y c e2), fun x hx => ?_, fun x c hf => absurd (show false = true from hf) Bool.false_ne_true, I.ok.hd, I.ok.frames, .inl rfl, fun b hb => ?_, fun b o e => ?_, ?_, fun b o e hb => ?_, fun b hb hf => ?_, ?_, fun b hb => ?_⟩,
    rfl, I.bare, Un.kept up2, ⟨_, hns, fun i x v e1 e2 e3 => ?_⟩, fun x c e => ?_, ?_, fun x c e => ?_, fun p hp => ?_, I1.hok.kept up2, ?_⟩
  · exact hC.has x (relabel_back nocell hx)
  · obtain ⟨o, ho⟩ := hfo b hb
    obtain ⟨f0, f1, f2, f3, f4, f5⟩ := hfp b hb
    exact ⟨Nat.ne_of_lt (Nat.lt_succ_of_lt (ltS b o ho)), fun x c e => f4 x c (hC.sub x c e)⟩
  · have q := I1.bs b o e
    exact q
  · show X.base.objs.size ≤ (s.heap.push _).objs.size
    rw [hz]
    exact Nat.le_trans (Nat.le_trans I.ok.bsz I.sz) (Nat.le_succ _)
  · obtain ⟨f0, f1, f2, f3, f4, f5⟩ := hfp b hb
    rcases f3 with f3 | f3
    · exact I.ok.noex b o e f3
    · exact absurd (Nat.lt_of_lt_of_le (Heap.lt_size e) (Nat.le_trans I.ok.bsz f3)) (Nat.lt_irrefl _)
  · obtain ⟨f0, f1, f2, f3, f4, f5⟩ := hfp b hb
    rcases List.mem_cons.mp (hsub b hf) with z | z
    · exact f1 z
    · exact f2 z
  · exact I1.stack
  · exact I1.stkFree b hb
  · -- the captured names
    have e2' : ∃ o, caps[i]? = some o ∧ (match o with | none => none | some j => (σ[j]?).join) = some v := by
      unfold capSt at e2
      rw [List.getElem?_map] at e2
      cases q : caps[i]? with
      | none => rw [q] at e2; cases e2
      | some o => rw [q] at e2; exact ⟨o, rfl, Option.some.inj e2⟩
    obtain ⟨o, ho, hv⟩ := e2'
    cases o with
    | none => cases hv
    | some j =>
      have hv' : (σ[j]?).join = some v := hv
      have hσ : σ[j]? = some (some v) := by
        cases q : σ[j]? with
        | none => rw [q] at hv'; cases hv'
        | some w => rw [q] at hv'; rw [show w = some v from hv']
      have hzip : (x, some j) ∈ N'.zip caps := by
        refine List.mem_iff_getElem?.mpr ⟨i, ?_⟩
        rw [List.getElem?_zip_eq_some]
        exact ⟨e1, ho⟩
      have q := List.all_eq_true.mp hcap2 _ hzip
      simp only [Bool.and_eq_true, beq_iff_eq] at q
      obtain ⟨q1, q2⟩ := q
      have q3 := hcap3' _ (find_names q2)
      have q4 : X.env.scope.names.lookup x = some .cell ∨ X.env.scope.names.lookup x = some .free := by
        simp only [bne_self_eq_false, Bool.false_or, Bool.and_eq_true, Bool.or_eq_true, beq_iff_eq] at q3
        exact q3.1.2
      obtain ⟨m, _, hl⟩ := I.loc
      obtain ⟨u, ru, lk⟩ := hl j x v q1 hσ (.inr q4)
      refine ⟨u, ru, .inr ⟨relabel_free q2, ?_⟩⟩
      have q5 : X.env.kindOf x = some .cell ∨ X.env.kindOf x = some .free := q4
      rcases lk with ⟨k, _⟩ | ⟨_, c, ec, hc⟩
      · rcases q5 with q5 | q5 <;> (rw [q5] at k; cases k)
      · obtain ⟨c', ec'⟩ := hC.has x (find_names q2)
        have := hC.sub x c' ec'
        rw [ec] at this
        cases this
        obtain ⟨oc, hoc, hdc⟩ := hc
        exact ⟨c, ec', oc, up2 _ _ (up1 _ _ hoc), hdc⟩
  · obtain ⟨v, oc, hoc, hdc⟩ := I.cell x c (hC.sub x c e)
    exact ⟨v, oc, up2 _ _ (up1 _ _ hoc), hdc⟩
  · show upd H _ _ (s.heap.objs.size + 1) = none
    rw [upd_ne (Nat.ne_of_gt (Nat.lt_succ_self _))]
    exact I.hok.fresh (Nat.le_succ _)
  · exact I1.freeC x c (hC.sub x c e)
  · have hp' : p ∈ X.pn ++ pins := by simpa using hp
    obtain ⟨a1, a2, a3, a4, a5⟩ := I1.pin p hp'
    obtain ⟨b1, _, _, _, _⟩ := I.pin p hp'
    refine ⟨up2 _ _ a1, a2, Nat.ne_of_lt (Nat.lt_succ_of_lt (ltS _ _ b1)), fun hf => ?_, a5⟩
    rcases List.mem_cons.mp (hsub p.1 hf) with z | z
    · exact a3 z
    · exact a4 z
  · show (capSt caps σ).length = N'.length
    unfold capSt
    rw [List.length_map, hlen]
/-- behind a block: the outer context again -/
theorem comp_back {N' : List Str} {scope : Scope} {cl : List (Str × Addr)} {fp : List Addr} {C : Addr} {pins' : List (Addr × Obj)} {σ' : St} {H' : Hp} {s' : Shared} (I : Inv X pins σ H s) (hfp : ∀ b ∈ fp, FpOk X pins H b)
    (J : Inv (cxComp X pins N' scope cl C { s with heap := s.heap.push { cls := .type "list", data := .seq #[] } } (upd H s.heap.objs.size (.lst [])) fp) pins' σ' H' s') : Inv X pins σ H' s' := by
  have hn : H s.heap.objs.size = none := I.hok.fresh (Nat.le_refl _)
  refine I.call' (ch := fp) J.os ?_ J.hok J.bare fun b hb => ?_
  · exact (Un.laid (fun b o e => Heap.get?_push_of_some _ e) (Nat.le_refl _) hn).trans J.base
  · obtain ⟨f0, f1, f2, f3, f4, f5⟩ := hfp b hb
    exact ⟨f3, f1, f4, f5⟩
end
end L2
namespace L2
open PySem PySem.Spec PyProof.Rows
/-- the tests of a comprehension -/
def PIfs (X : Cx) (ifs : List Expr) (t : TT) : Prop :=
  ∀ (pins : List (Addr × Obj)) (s : Shared) (σ : St) (H : Hp) (Q : Bool → Hp → Prop), Inv X pins σ H s → t σ H Q →
    wpAny (model X.prog X.w) X.A (forIn ifs true fun c r => if r = true then do let ok ← isTrue c X.env (eval c X.env); pure (ForInStep.yield ok) else pure (ForInStep.yield r)) (TP X pins σ Q) X.xe s
def tYes : TT := fun _ H Q => Q true H
theorem pifs_nil {X : Cx} : PIfs X [] tYes := fun _ _ _ H _ I h => wpAny_tests_nil ⟨H, I, h⟩
/-- a turn of a comprehension, from an iterator on -/
def compRead (J : It) (D : Addr) (g : TG) (tt : TT) (te : TE) (σ0 : St) (H0 : Hp) (Q : Hp → Prop) : Prop :=
  ∃ W : Nat → Nat → St → Hp → Prop, (∃ m, W 0 m σ0 H0) ∧ ∀ i m σ' H', W i m σ' H' →
    (J.stop i H' ∧ Q H') ∨ (J.go i H' ∧ ∃ N : St → Hp → Prop, (∀ σ' H', N σ' H' → ∃ m', m' < m ∧ W (i + 1) m' σ' H') ∧ ∀ x H2, J.yld i H' x H2 → g x σ' H2 fun σ2 H3 => tt σ2 H3 fun b H4 =>
      if b = true then te σ2 H4 fun v H5 => ∃ ys, H5 D = some (.lst ys) ∧ ys.length < sizeLine ∧ N σ2 (upd H5 D (.lst (ys ++ [v]))) else N σ2 H4)
/-- a list comprehension: the new list at D -/
def tComp (caps : List (Option Nat)) (wi : TI) (g : TG) (tt : TT) (te : TE) : TE := fun σ H Q => wi σ H fun J H1 => ∀ D, H1 D = none → compRead J D g tt te (capSt caps σ) (upd H1 D (.lst [])) fun H2 => Q (.ref D) H2
section
variable {X : Cx} {tg elt iter : Expr} {ifs : List Expr} {scope : Scope} {pos : Pos}
theorem comp_loop {X' : Cx} {fp : List Addr} {it D : Addr} {tn : Nat → Heap → Prop} {J : It} {g : TG} {tt : TT} {te : TE} {σ0 : St} {H0 : Hp} {s : Shared} {R : Result → Shared → Prop} {Qe : Hp → Prop} (hc : X'.calm = true) (hxe : X'.xe = fun _ _ => False)
    (T : Turn X'.prog X'.w X'.K tg J fp it tn) (hg : PG X' tg g) (ht : PIfs X' ifs tt) (he : PE X' elt te) (I : Inv X' [] σ0 H0 s) (hf : ∀ b ∈ fp, FpOk X' [] H0 b) (st : tn 0 s.heap) (q : compRead J D g tt te σ0 H0 Qe)
    (hR : ∀ s' σ' H', Inv X' [] σ' H' s' → Qe H' → R (.ok .next) s') :
    codeAny (model X'.prog X'.w) X'.A (.compLoop (.ListComp elt [⟨tg, iter, ifs, 0⟩] scope pos) 0 (.ref it) (.ref D) X'.env) R s := by
  obtain ⟨W, ⟨m0, w0⟩, turn⟩ := q
  have stat : ∀ {H' : Hp}, (∀ b ∈ fp, H' b = none) → ∀ b ∈ fp, FpOk X' [] H' b := fun hn b hb => ⟨hn b hb, (hf b hb).2⟩
  refine codeAny_loop rfl (fun n s' => ∃ i σ' H', Inv X' [] σ' H' s' ∧ tn i s'.heap ∧ (∀ b ∈ fp, H' b = none) ∧ W i n σ' H') ?_ m0 ⟨0, σ0, H0, I, st, fun b hb => (hf b hb).1, w0⟩
  rintro n s3 ⟨i, σ3, H3, I3, st3, fr3, w3⟩
  show wpAny _ X'.A ((compTurn (.ListComp elt [⟨tg, iter, ifs, 0⟩] scope pos) 0 (.ref it) (.ref D) X'.env).onRaise (fun x => do noteFrame x X'.env; theTreesLotGoes x)) _ _ s3
  refine wpAny_noted ?_
  rw [compTurn_list]
  have no : ∀ {α : Type} {t : Sem α} {Q : α → Shared → Prop} {s' : Shared} {E' : Value → Shared → Prop}, wpAny (model X'.prog X'.w) X'.A t Q X'.xe s' → wpAny (model X'.prog X'.w) X'.A t Q E' s' := fun h => wpAny_mono h (fun _ _ x => x) fun _ _ x => by rw [hxe] at x; exact x.elim
  refine wpAny_bind (wpAny_standAt ?_)
  rcases turn i n σ3 H3 w3 with ⟨stop, qn⟩ | ⟨go, N, hN, step⟩
  · refine wpAny_bind (thn (T.done X' rfl rfl rfl hc i [] s3 σ3 H3 _ I3 (stat fr3) st3 stop) fun r s4 ⟨hr, I4⟩ => ?_)
    subst hr
    exact wpAny_pure (hR _ _ _ I4 qn)
  · refine wpAny_bind (thn (T.item X' rfl rfl rfl hc i [] s3 σ3 H3 _ I3 (stat fr3) st3 go) fun r s4 ⟨u, hr, h4⟩ => ?_)
    subst hr
    refine wpAny_bind (thn h4 fun _ s5 ⟨x, H5, I5, r5, y5, st5, fr5⟩ => ?_)
    have I5' := I5.pinned (stat fr5) (T.obj _ _ st5)
    have again : ∀ {σ7 : St} {H7 : Hp} {s7 : Shared}, Inv X' ([] ++ pinsAt fp s5.heap) σ7 H7 s7 → N σ7 H7 → ∃ m, m < n ∧ ∃ i σ' H', Inv X' [] σ' H' s7 ∧ tn i s7.heap ∧ (∀ b ∈ fp, H' b = none) ∧ W i m σ' H' := fun {σ7 H7 s7} I7 n7 => by
      obtain ⟨m', hm, w7⟩ := hN σ7 H7 n7
      refine ⟨m', hm, i + 1, σ7, H7, I7.unpinned, T.keep _ _ _ st5 fun b hb o e => (I7.pin (b, o) (List.mem_append_right _ (List.mem_append_right _ (mem_pinsAt hb e)))).1, fun b hb => ?_, w7⟩
      obtain ⟨o, e, d⟩ := T.obj _ _ st5 b hb
      exact (I7.pin (b, o) (List.mem_append_right _ (List.mem_append_right _ (mem_pinsAt hb e)))).2.1
    refine wpAny_bind (thn (no (hg _ s5 σ3 H5 x u _ I5' r5 (step x H5 y5))) fun _ s6 ⟨σ6, H6, I6, q6⟩ => ?_)
    refine wpAny_bind (thn (no (ht _ s6 σ6 H6 _ I6 q6)) fun b s7 ⟨H7, I7, q7⟩ => ?_)
    cases b with
    | false => exact wpAny_pure ⟨rfl, again I7 q7⟩
    | true =>
      refine wpAny_bind (wpAny_bind (thn (no (he _ s7 σ6 H7 _ I7 q7)) fun v s8 ⟨y, H8, I8, r8, q8⟩ => ?_))
      obtain ⟨ys, hD, hsz, q8⟩ := q8
      refine wpAny_bind (thn (no (mt_append (X := X') _ s8 σ6 H8 (.ref D) [y] (Value.ref D) [v] (fun _ H9 => N σ6 H9) I8 rfl (.cons r8 .nil) ⟨D, ys, y, rfl, rfl, hD, hsz, q8⟩)) fun _ s9 ⟨z, H9, I9, _, q9⟩ => ?_)
      exact wpAny_pure (wpAny_pure ⟨rfl, again I9 q9⟩)
theorem vis_free {N' : List Str} {caps : List (Option Nat)} {N : List Str} {names names' : List (Str × NameKind)} (h : capOk N' caps N names names' = true) : (∀ p ∈ names', p.2 ≠ NameKind.cell) ∧ (∀ x, (x, NameKind.free) ∈ names' → names.lookup x = some .cell ∨ names.lookup x = some .free) ∧ ∀ p ∈ names', p.2 = .local → names'.lookup p.1 = some .local := by
  have h3 := List.all_eq_true.mp (Bool.and_eq_true_iff.mp h).2
  refine ⟨fun p hp => ?_, fun x hx => ?_, fun p hp hl => ?_⟩
  · have := h3 p hp
    simp only [Bool.and_eq_true, bne_iff_ne] at this
    exact this.1.1
  · have := h3 _ hx
    simp only [bne_self_eq_false, Bool.false_or, Bool.and_eq_true, Bool.or_eq_true, beq_iff_eq] at this
    exact this.1.2
  · have := h3 p hp
    rw [hl] at this
    simp only [bne_self_eq_false, Bool.false_or, Bool.and_eq_true, beq_iff_eq] at this
    exact this.2
/-- the block, from the iterator on -/
theorem comp_block {N' : List Str} {caps : List (Option Nat)} {pins : List (Addr × Obj)} {σ : St} {H : Hp} {s : Shared} {J : It} {fp : List Addr} {it : Addr} {tn : Nat → Heap → Prop} {g : TG} {tt : TT} {te : TE} {cl : List (Str × Addr)} {RR : Value → Addr → Result → Shared → Prop} {Qe : Addr → Hp → Prop}
    (hc : X.calm = true) (hcap : capOk N' caps X.N X.env.scope.names scope.names = true) (hkind : scope.kind = .function) (hC : Clo scope X.env cl)
    (hg : ∀ C s0 H0 fp, PG (cxComp X pins N' scope cl C s0 H0 fp) tg g) (ht : ∀ C s0 H0 fp, PIfs (cxComp X pins N' scope cl C s0 H0 fp) ifs tt) (he : ∀ C s0 H0 fp, PE (cxComp X pins N' scope cl C s0 H0 fp) elt te)
    (I : Inv X pins σ H s) (T : Turn X.prog X.w X.K tg J fp it tn) (st : tn 0 s.heap) (hf : ∀ b ∈ fp, FpOk X pins H b) (q : ∀ D, H D = none → compRead J D g tt te (capSt caps σ) (upd H D (.lst [])) (Qe D))
    (hR : ∀ (D C : Addr) (s' : Shared) (H' : Hp), Inv X pins σ H' s' → Qe D H' → D ≠ C → (∃ o m, s'.heap.get? C = some o ∧ (∀ v, o.data ≠ .cell v) ∧ (∀ h2 : Heap, h2.get? C = some o → h2.Ns C m)) → H' C = none → s.heap.objs.size ≤ C → RR (.ref D) C (.ok .next) s') :
    wpAny (model X.prog X.w) X.A (newList []) (fun acc s₃ => wpAny (model X.prog X.w) X.A (newFunctionEnv scope X.env.globals cl [] X.env.qual none .none (some X.env)) (fun cenv s₄ =>
      codeAny (model X.prog X.w) X.A (.compStart (.ListComp elt [⟨tg, iter, ifs, 0⟩] scope pos) 0 (.ref it) acc { cenv with scope := relabel scope X.env }) (RR acc cenv.locals) s₄) X.xe s₃) X.xe s := by
  refine wpAny_newObj_type (wpAny_newFunctionEnv (vis_free hcap).1 (by intro y hy; simp at hy) (fun h₁ hns₁ hsb₁ => ?_) hkind)
  have hz : (s.heap.push { cls := .type "list", data := .seq #[] }).objs.size = s.heap.objs.size + 1 := Heap.size_push ..
  have hns : h₁.Ns (s.heap.objs.size + 1) fun _ => none := by rw [← hz]; exact hns₁
  have hsb : Heap.SameBut (s.heap.objs.size + 1) ((s.heap.push { cls := .type "list", data := .seq #[] }).push { cls := .type "dict", data := .dict #[] }) h₁ := by rw [← hz]; exact hsb₁
  have hfo : ∀ b ∈ fp, ∃ o, s.heap.get? b = some o := fun b hb => let ⟨o, e, _⟩ := T.obj 0 _ st b hb; ⟨o, e⟩
  have I1 := comp_start (tk := s.toks + ([] : List (Str × Value)).length) I hf hfo hcap hkind hC hns hsb
  have hn : H s.heap.objs.size = none := I.hok.fresh (Nat.le_refl _)
  have up : ∀ b o, s.heap.get? b = some o → h₁.get? b = some o := fun b o e =>
    hsb.extBut b o (Nat.ne_of_lt (Nat.lt_succ_of_lt (Heap.lt_size e))) (Heap.get?_push_of_some _ (Heap.get?_push_of_some _ e))
  have st1 : tn 0 h₁ := T.keep _ _ _ st fun b _ o e => up b o e
  have f1 : ∀ b ∈ fp, FpOk (cxComp X pins N' scope cl (s.heap.objs.size + 1) { s with heap := s.heap.push { cls := .type "list", data := .seq #[] } } (upd H s.heap.objs.size (.lst [])) fp) [] (upd H s.heap.objs.size (.lst [])) b := fun b hb => by
    obtain ⟨a0, a1, a2, a3, a4, a5⟩ := hf b hb
    obtain ⟨o, ho⟩ := hfo b hb
    have hlt := Heap.lt_size ho
    refine ⟨by rw [upd_ne (Nat.ne_of_lt hlt)]; exact a0, Nat.ne_of_lt (Nat.lt_succ_of_lt hlt), fun z => ?_, .inl hb, fun x c e => a4 x c (hC.sub x c e), fun p hp => a5 p (by simpa using hp)⟩
    rcases List.mem_cons.mp (I.stkSub b z) with z | z
    · exact a1 z
    · exact a2 z
  have loop : codeAny (model X.prog X.w) X.A (.compLoop (.ListComp elt [⟨tg, iter, ifs, 0⟩] scope pos) 0 (.ref it) (.ref s.heap.objs.size) (compEnvC scope cl (s.heap.objs.size + 1) X.env))
      (RR (.ref s.heap.objs.size) (s.heap.objs.size + 1)) { s with heap := h₁, toks := s.toks + ([] : List (Str × Value)).length } := by
    refine comp_loop (X' := cxComp X pins N' scope cl (s.heap.objs.size + 1) { s with heap := s.heap.push { cls := .type "list", data := .seq #[] } } (upd H s.heap.objs.size (.lst [])) fp) hc rfl T (hg _ _ _ _) (ht _ _ _ _) (he _ _ _ _) I1 f1 st1 (q _ hn) fun s' σ' H' J' qe => ?_
    have B := comp_back I hf J'
    obtain ⟨m, hnC, _⟩ := J'.loc
    obtain ⟨o, es, ep, ho, hd, r⟩ := id hnC
    exact hR _ _ s' H' B qe (Nat.ne_of_lt (Nat.lt_succ_self _)) ⟨o, m, ho, (fun v z => by rw [hd] at z; cases z), fun h2 e2 => ⟨o, es, ep, e2, hd, r⟩⟩ J'.free (Nat.le_succ _)
  have fin := codeAny_compStart_list loop (T.self _ _ _ _ _ st1 loop)
  have hz2 : (s.heap.push { cls := .type "list", dict := none, data := .seq ([] : List Value).toArray }).objs.size = s.heap.objs.size + 1 := hz
  show codeAny _ _ (.compStart _ 0 _ _ { (newEnv scope (s.heap.push { cls := .type "list", dict := none, data := .seq ([] : List Value).toArray }).objs.size X.env.globals cl X.env.qual none .none (some X.env) _) with scope := relabel scope X.env }) (RR _ (s.heap.push { cls := .type "list", dict := none, data := .seq ([] : List Value).toArray }).objs.size) _
  rw [hz2]
  exact fin
theorem clo_of {N' : List Str} {caps : List (Option Nat)} {pins : List (Addr × Obj)} {σ : St} {H : Hp} {s : Shared} (I : Inv X pins σ H s) (hcap : capOk N' caps X.N X.env.scope.names scope.names = true) : ∃ cl, Clo scope X.env cl :=
  clo_mk fun x hx => I.ok.has x ((vis_free hcap).2.1 x hx)
/-- [elt for tg in iter if ..] -/
theorem pe_comp (N' : List Str) (caps : List (Option Nat)) {wi : TI} {g : TG} {tt : TT} {te : TE} (hc : X.calm = true) (hi : PI X tg iter wi)
    (hg : ∀ pins cl C s0 H0 fp, PG (cxComp X pins N' scope cl C s0 H0 fp) tg g) (ht : ∀ pins cl C s0 H0 fp, PIfs (cxComp X pins N' scope cl C s0 H0 fp) ifs tt) (he : ∀ pins cl C s0 H0 fp, PE (cxComp X pins N' scope cl C s0 H0 fp) elt te)
    (hcap : capOk N' caps X.N X.env.scope.names scope.names = true := by rfl) (hkind : scope.kind = .function := by rfl) (hs : ∀ x, foldedSetIterable iter X.env x = pure x := by intro _; rfl) :
    PE X (.ListComp elt [⟨tg, iter, ifs, 0⟩] scope pos) (tComp caps wi g tt te) := by
  intro pins s σ H Q I h
  obtain ⟨cl, hC⟩ := clo_of I hcap
  rw [eval_ListComp]
  refine wpAny_comprehension_free (use := none) rfl hs hC.eq hkind (vis_free hcap).2.2 (thn (hi pins s σ H _ I h) fun v s1 h1 => thn h1 fun itv s2 h2 => ?_)
  obtain ⟨it, fp, tn, J, H2, e, I2, T, st2, f2, q2⟩ := h2
  subst e
  refine comp_block (RR := fun acc C => compPost (model X.prog X.w) X.A X.xe none (EP X pins σ Q) acc C) (Qe := fun D H' => Q (.ref D) H') hc hcap hkind hC (hg pins cl) (ht pins cl) (he pins cl) I2 T st2 f2 q2 fun D C s' H' I' q' hDC hCo hCn hCs => ?_
  obtain ⟨o, m, ho, hd, hns⟩ := hCo
  refine ⟨m, hns _ ho, fun h' hsb => ⟨.ref D, H', ?_, rfl, q'⟩⟩
  obtain ⟨hp', g', d', t', os'⟩ := s'
  have hC0 : X.s₀.heap.objs.size ≤ C := Nat.le_trans I2.sz hCs
  exact I'.turned (t' := t') (it := C) (fun b o hb e => hsb.extBut b o hb e) hCn (fun z => by
    have := I2.lt; rw [← z] at this; exact absurd (Nat.lt_of_lt_of_le this hCs) (Nat.lt_irrefl _)) (.inr hC0) (fun x c e z => by
    obtain ⟨v, q⟩ := I2.cell x c e
    exact absurd (Nat.lt_of_lt_of_le q.lt (by rw [z]; exact hCs)) (Nat.lt_irrefl _)) (fun p hp z => by
    exact absurd (Nat.lt_of_lt_of_le (Heap.lt_size (I2.pin p hp).1) (by rw [z]; exact hCs)) (Nat.lt_irrefl _))
/-- name = [elt for tg in iter if ..] -/
theorem ps_comp (N' : List Str) (caps : List (Option Nat)) {i : Nat} {y : Str} {py spos : Pos} {wi : TI} {g : TG} {tt : TT} {te : TE} (hc : X.calm = true) (hN : X.N.Nodup) (hy : X.N[i]? = some y) (hl : Loc X.env.scope y) (hi : PI X tg iter wi)
    (hg : ∀ pins cl C s0 H0 fp, PG (cxComp X pins N' scope cl C s0 H0 fp) tg g) (ht : ∀ pins cl C s0 H0 fp, PIfs (cxComp X pins N' scope cl C s0 H0 fp) ifs tt) (he : ∀ pins cl C s0 H0 fp, PE (cxComp X pins N' scope cl C s0 H0 fp) elt te)
    (hsw : swapsWith (.ListComp elt [⟨tg, iter, ifs, 0⟩] scope pos) (some (.Name y py)) spos.line X.env = pure true := by rfl)
    (hcap : capOk N' caps X.N X.env.scope.names scope.names = true := by rfl) (hkind : scope.kind = .function := by rfl) (hs : ∀ x, foldedSetIterable iter X.env x = pure x := by intro _; rfl)
    (hf : X.fn y = true ∨ X.env.scope.names.lookup y = some .local := by first | exact .inl rfl | exact .inr rfl | assumption) :
    PS X (.Assign [.Name y py] (.ListComp elt [⟨tg, iter, ifs, 0⟩] scope pos) spos) (tAsg (tComp caps wi g tt te) (gName i)) := by
  intro pins s σ H D0 I h
  obtain ⟨cl, hC⟩ := clo_of I hcap
  rw [exec_Assign_Name_used _ _ _ _ hsw]
  refine wpAny_bind (wpAny_standAt (wpAny_bind ?_))
  show wpAny _ X.A (do let _ ← comprehension (.ListComp elt [⟨tg, iter, ifs, 0⟩] scope pos) scope X.env _ (newList []) false (eval iter X.env) (some (assign (.Name y py) X.env))) _ _ s
  refine wpAny_bind (wpAny_mono (wpAny_comprehension_free (use := some (assign (.Name y py) X.env)) (Q := fun _ s' => SP X pins D0 .next s') rfl hs hC.eq hkind (vis_free hcap).2.2
    (thn (hi pins s σ H _ I h) fun v s1 h1 => thn h1 fun itv s2 h2 => ?_)) (fun _ s' hq => wpAny_pure (wpAny_pure hq)) fun _ _ e => e)
  obtain ⟨it, fp, tn, J, H2, e, I2, T, st2, f2, q2⟩ := h2
  subst e
  refine comp_block (RR := fun acc C => compPost (model X.prog X.w) X.A X.xe (some (assign (.Name y py) X.env)) (fun _ s' => SP X pins D0 .next s') acc C) (Qe := fun D H' => gName i (.ref D) σ H' D0.nx) hc hcap hkind hC (hg pins cl) (ht pins cl) (he pins cl) I2 T st2 f2 q2 fun D C s' H' I' q' hDC hCo hCn hCs => ?_
  obtain ⟨o, m, ho, hd, hns⟩ := hCo
  have hCL : C ≠ X.env.locals := fun z => by
    have := I2.lt; rw [← z] at this; exact absurd (Nat.lt_of_lt_of_le this hCs) (Nat.lt_irrefl _)
  have hCc : ∀ x c, X.env.cells.lookup x = some c → c ≠ C := fun x c e z => by
    obtain ⟨v, q⟩ := I2.cell x c e
    exact absurd (Nat.lt_of_lt_of_le q.lt (by rw [z]; exact hCs)) (Nat.lt_irrefl _)
  have hCp : ∀ p ∈ X.pn ++ pins, p.1 ≠ C := fun p hp z => absurd (Nat.lt_of_lt_of_le (Heap.lt_size (I2.pin p hp).1) (by rw [z]; exact hCs)) (Nat.lt_irrefl _)
  have hC0 : X.s₀.heap.objs.size ≤ C := Nat.le_trans I2.sz hCs
  have hCf : C ∉ X.fs := I2.nofs hCs
  have I'' : Inv X (pins ++ [(C, o)]) σ H' s' := I'.pins_of fun p hp => (List.mem_append.mp hp).elim (fun z => I'.pin p (List.mem_append_right _ z)) fun z => by
    have e : p = (C, o) := by simpa using z
    subst e
    exact ⟨ho, hCn, hCL, hCf, hd⟩
  show wpAny _ X.A (assign (.Name y py) X.env (.ref D)) _ _ _
  refine wpAny_assign_Name (store_ok I'' hN hy hl (v := .ref D) rfl (fun s'' J' => ?_) hf)
  have hCo2 := (J'.pin (C, o) (List.mem_append_right _ (List.mem_append_right _ (by simp))))
  refine ⟨m, hns _ hCo2.1, fun h' hsb => ?_⟩
  obtain ⟨hp', g', d', t', os'⟩ := s''
  exact ⟨_, H', J'.unpinned.turned (t' := t') (it := C) (fun b o hb e => hsb.extBut b o hb e) hCo2.2.1 hCL (.inr hC0) hCc hCp, q'⟩
end
end L2

set_option Elab.async false
set_option maxRecDepth 100000
set_option maxHeartbeats 4000000
namespace L2
open PySem PySem.Spec PyProof.Rows
section
variable {X : Cx}
/-! ### isinstance against a builtin type -/
def isTy (t : String) (c : String) : Bool := t == c || (t == "bool" && c == "int")
theorem kit_ty {K : PySem.W.Frag} (t c : String) (ht : t ∈ ["NoneType", "bool", "int", "str", "list", "tuple", "dict"]) (hc : c ∈ ["bool", "int", "str", "list", "tuple", "dict"]) : PySem.W.kitOne K (.type t) (.type c) = some (isTy t c) := by
  simp only [List.mem_cons, List.not_mem_nil, or_false] at ht hc
  rcases ht with rfl | rfl | rfl | rfl | rfl | rfl | rfl <;> rcases hc with rfl | rfl | rfl | rfl | rfl | rfl <;> rfl
theorem call_isinstance : CallR X (.builtin "isinstance") (fun xs H Q => ∃ x t c, xs = [x, .ty c] ∧ TyOf X.K H x (.type t) ∧ t ∈ ["NoneType", "bool", "int", "str", "list", "tuple", "dict"] ∧ c ∈ ["bool", "int", "str", "list", "tuple", "dict"] ∧ Q (.bl (isTy t c)) H) := by
  intro pins s σ H xs us Q I r h
  obtain ⟨x, t, c, rfl, ty, ht, hc, q⟩ := h
  obtain ⟨u, w', rfl, rx, ry⟩ := vals2 r
  cases ry
  exact isinst_ok I rx ty (kit_ty t c ht hc) fun tk => ⟨.bl _, H, I.tok tk, rfl, q⟩
/-- a type's own name as a value -/
theorem pe_tyn {x : Str} {T : String} {pos : Pos} (hg : Gl X x) (hm : X.mg x = none) (hv : bootBuiltins x = some (.type T)) (hn : x ≠ "__name__" := by decide) (hd : (x == ("__debug__" : Str)) = false := by decide) : PE X (.Name x pos) (tC (.ty T)) :=
  pe_bltn hg hm hv rfl hn hd
/-! ### two lists of ints compared -/
end
end L2
namespace L2
open PySem PySem.Spec PyProof.Rows
section
variable {X : Cx}
theorem all_range_eq : ∀ (ns ms : List Int), ns.length = ms.length → ((List.range ns.length).all fun j => decide (ns.getD j 0 = ms.getD j 0)) = decide (ns = ms) := by
  intro ns ms hl
  by_cases h : ns = ms
  · subst h; simp
  · rw [decide_eq_false h]
    cases hc : ((List.range ns.length).all fun j => decide (ns.getD j 0 = ms.getD j 0)) with
    | false => rfl
    | true =>
      exfalso
      apply h
      rw [List.all_eq_true] at hc
      apply List.ext_getElem hl
      intro i h1 h2
      have := hc i (List.mem_range.mpr h1)
      have e := of_decide_eq_true this
      rw [List.getD_eq_getElem?_getD, List.getD_eq_getElem?_getD, List.getElem?_eq_getElem h1, List.getElem?_eq_getElem h2] at e
      exact e
theorem ints_at {ns : List Int} : ∀ {us : List Value}, IntsAre us ns → ∀ (j : Nat) (h : j < us.toArray.size), ∃ t, us.toArray[j] = .int (ns.getD j 0) t := by
  induction ns with
  | nil => intro us h j hj; cases h; simp at hj
  | cons n ns ih =>
    intro us h j hj
    cases h with
    | cons _ t h =>
      cases j with
      | zero => exact ⟨t, by simp⟩
      | succ j =>
        obtain ⟨t', e⟩ := ih h j (by simpa using hj)
        exact ⟨t', by simpa using e⟩
/-- == of two lists of ints -/
def rEqI (K : PySem.W.Frag) (neg : Bool) : R2 := fun x y H Q => ∃ (p q : Addr) (ns ms : List Int), x = .ref p ∧ y = .ref q ∧ SqL K H p (ns.map V.int) ∧ SqL K H q (ms.map V.int) ∧ Q (.bl (if neg then !decide (ns = ms) else decide (ns = ms))) H
theorem op_eqI {k : Nat} (hr : Room k X.A) : OpR X (compareOp .Eq) (rEqI X.K false) := by
  intro pins s σ H x y v u Q I rx ry h
  obtain ⟨p, q, ns, ms, rfl, rfl, h1, h2, qq⟩ := h
  cases rx; cases ry
  obtain ⟨its, r1, p1, _⟩ := I.list h1
  obtain ⟨its2, r2, p2, _⟩ := I.list h2
  have i1 := intsAre_of r1
  have i2 := intsAre_of r2
  have l1 := r1.length
  have l2 := r2.length
  rw [List.length_map] at l1 l2
  by_cases hl : ns.length = ms.length
  · refine SeqAt.eq_listAt (e := fun j => decide (ns.getD j 0 = ms.getD j 0)) p1.isList p2.isList (by simp only [List.size_toArray]; omega) hr.units0 (fun j a1 a2 => ?_) ?_
    · obtain ⟨t1, e1⟩ := ints_at i1 j a1
      obtain ⟨t2, e2⟩ := ints_at i2 j a2
      rw [e1, e2]
      have := SeqAt.EqAt.int_int (A := X.A.in1) (s := s) (ns.getD j 0) t1 (ms.getD j 0) t2
      rw [Bool.beq_eq_decide_eq] at this
      exact this
    · rw [show its.toArray.size = ns.length by simp only [List.size_toArray]; omega, all_range_eq ns ms hl]
      exact ⟨.bl _, H, I, rfl, qq⟩
  · refine SeqAt.eq_list_lengthsAt p1.isList p2.isList (by simp only [List.size_toArray, bne_iff_ne]; omega) hr.units0 ⟨.bl false, H, I, rfl, ?_⟩
    have : decide (ns = ms) = false := decide_eq_false fun e => hl (by rw [e])
    rw [this] at qq
    exact qq
/-! ### range by -1 -/
/-- hi, hi - 1, .. (n of them) -/
def Itd (hi : Int) (n : Nat) : It := ⟨fun i _ => i < n, fun i H x H' => H' = H ∧ x = .int (hi - i), fun i _ => n ≤ i⟩
theorem turn_down {P : Program} {w : World} {K : PySem.W.Frag} {tg : Expr} (it : Addr) (hi : Int) (n : Nat) : Turn P w K tg (Itd hi n) [it] it (fun i h => IsRangeIter h it (hi + (i : Nat) * -1) ((n : Int) - (i : Nat)) (-1)) where
  mem := by simp
  obj := fun i h st b hb => by
    have e : b = it := by simpa using hb
    subst e
    exact ⟨_, st, fun v z => by
      have z' : Data.fields _ = Data.cell v := z
      cases z'⟩
  keep := fun i h h' st k => k it (by simp) _ st
  item := by
    intro X hP hw hK hc i pins s σ H E I hf st hg
    subst hP hw hK
    obtain ⟨f0, f1, f2, f3, f4, f5⟩ := hf it (by simp)
    have W := Walks.range (prog := X.prog) (w := X.w) (I.ok.hd hc) it hi (-1) n
    refine W.item i s _ _ hg st fun v h' tk hv st' kk => ?_
    obtain ⟨t, rfl⟩ := hv
    have I1 : Inv X pins σ H { s with heap := h', toks := tk } := I.turned (fun b o hb e => kk b o (by simpa using hb) e) f0 f1 f3 f4 f5
    refine ⟨_, rfl, go_of (s := { s with heap := h', toks := tk }) (n := "range_iterator") st' rfl rfl (by decide) ⟨.int (hi - i), H, I1, ⟨t, ?_⟩, ⟨rfl, rfl⟩, st', fun b hb => (hf b hb).1⟩⟩
    congr 1; omega
  done := by
    intro X hP hw hK hc i pins s σ H E I hf st hg
    subst hP hw hK
    obtain ⟨f0, f1, f2, f3, f4, f5⟩ := hf it (by simp)
    exact wpAny_pyNext_range_end (I.ok.hd hc) st (by have : n ≤ i := hg; omega) fun h' eb => ⟨rfl, I.turned (t' := s.toks) (fun b o hb e => eb b o hb e) f0 f1 f3 f4 f5⟩
  self := fun _ _ _ _ _ st h => wpAny_pyIter_rangeiter st h
theorem rangeSize_down (a b : Int) : Builtin.Range.rangeSize a b (-1) = if b < a then a - b else 0 := by
  unfold Builtin.Range.rangeSize
  simp only [show ¬ ((-1 : Int) > 0) by decide, if_false]
  rw [show (- -1 : Int) = 1 by decide, Int.ediv_one]
  split <;> omega
theorem small_down {a b : Int} (ha : -(2 ^ 61) ≤ a) (ha' : a < 2 ^ 61) (hb : -(2 ^ 61) ≤ b) (hb' : b < 2 ^ 61) : Builtin.Range.small a b (-1) = true := by
  unfold Builtin.Range.small
  rw [rangeSize_down]
  simp only [Builtin.Range.rangeFitsLong, Bool.and_eq_true, Bool.or_eq_true, decide_eq_true_eq, beq_iff_eq, show ¬ ((-1 : Int) > 0) by decide, if_false]
  split <;> omega
def iRngD (ta : TA) : TI := fun σ H R => ta σ H fun vs H1 => ∃ i j : Int, vs = [.int i, .int j, .int (-1)] ∧ (-(2 ^ 61) ≤ i ∧ i < 2 ^ 61 ∧ -(2 ^ 61) ≤ j ∧ j < 2 ^ 61) ∧ R (Itd i (i - j).toNat) H1
theorem pi_down {tg a b c : Expr} {ta : TA} {p pos : Pos} (hg : Gl X "range") (hm : X.mg "range" = none) (ha : PA X [a, b, c] ta) (hs : starEach [a, b, c] X.env = [(false, eval a X.env), (false, eval b X.env), (false, eval c X.env)] := by rfl) (hs2 : starEach [b, c] X.env = [(false, eval b X.env), (false, eval c X.env)] := by rfl) :
    PI X tg (.Call (.Name "range" p) [a, b, c] [] pos) (iRngD ta) := by
  intro pins s σ H R I h
  refine Call_ (ld_blt I hg hm boot_range (PyProof.Rows.callWith_type1 (thn (ha pos pins s σ H _ I h) fun us s1 ⟨vs, H1, I1, r1, q1⟩ => ?_) (by rw [hs, hs2]) (by rw [hs2]; rfl)))
  obtain ⟨i, j, e, ⟨q1, q2, q3, q4⟩, q⟩ := q1
  subst e
  cases r1 with
  | cons r rr =>
    cases rr with
    | cons r' rr =>
      cases rr with
      | cons r'' rr =>
        cases rr
        obtain ⟨t, rfl⟩ := r
        obtain ⟨t', rfl⟩ := r'
        obtain ⟨t'', rfl⟩ := r''
        refine call_range_3 (by decide) ?_ (.inl (PyProof.noPylong_small (by decide)))
        refine wpAny_pyIter_range (IsRange.new ..) (small_down q1 q2 q3 q4) ?_
        have I2 : Inv X pins σ H1 { s1 with heap := s1.heap.push { cls := .type "range", data := .fields #[.int i t, .int j t', .int (-1) t''] }, toks := s1.toks } := I1.kept fun b o e => Heap.get?_push_of_some _ e
        refine ⟨(s1.heap.push { cls := .type "range", data := .fields #[.int i t, .int j t', .int (-1) t''] }).objs.size, [(s1.heap.push { cls := .type "range", data := .fields #[.int i t, .int j t', .int (-1) t''] }).objs.size], _, _, H1, rfl,
          I2.kept (t' := s1.toks) fun b o e => Heap.get?_push_of_some _ e, turn_down _ i (i - j).toNat, ?_, fun b hb => ?_, q⟩
        · have e1 : i + ((0 : Nat) : Int) * -1 = i := by simp
          have e2 : (((i - j).toNat : Nat) : Int) - ((0 : Nat) : Int) = Builtin.Range.rangeSize i j (-1) := by rw [rangeSize_down]; split <;> omega
          show IsRangeIter _ _ (i + ((0 : Nat) : Int) * -1) ((((i - j).toNat : Nat) : Int) - ((0 : Nat) : Int)) (-1)
          rw [e1, e2]
          exact Heap.get?_push_size _ rfl
        · have e : b = (s1.heap.push { cls := .type "range", data := .fields #[.int i t, .int j t', .int (-1) t''] }).objs.size := by simpa using hb
          subst e
          exact I2.fpOk (Nat.le_refl _) (I2.hok.fresh (Nat.le_refl _))
theorem for_down {hi : Int} {n : Nat} {g : TG} {tb : TS} {D : Ends} {σ : St} {H : Hp} (Pv : Nat → St → Hp → Prop) (h0 : Pv 0 σ H)
    (hs : ∀ i σ H, i < n → Pv i σ H → g (.int (hi - i)) σ H fun σ2 H2 => tb { D with nx := Pv (i + 1), ct := Pv (i + 1), bk := D.nx } σ2 H2) (hd : ∀ σ H, Pv n σ H → D.nx σ H) :
    ∃ W : Nat → Nat → St → Hp → Prop, (∃ m, W 0 m σ H) ∧ ∀ i m σ H, W i m σ H →
      ((Itd hi n).stop i H ∧ D.nx σ H) ∨ ((Itd hi n).go i H ∧ ∃ N : St → Hp → Prop, (∀ σ' H', N σ' H' → ∃ m', m' < m ∧ W (i + 1) m' σ' H') ∧ ∀ x H', (Itd hi n).yld i H x H' → g x σ H' fun σ2 H2 => tb { D with nx := N, ct := N, bk := D.nx } σ2 H2) := by
  refine ⟨fun i m σ H => m = n - i ∧ i ≤ n ∧ Pv i σ H, ⟨n, by simp, Nat.zero_le _, h0⟩, ?_⟩
  rintro i m σ H ⟨rfl, hi, p⟩
  by_cases hlt : i < n
  · refine .inr ⟨hlt, Pv (i + 1), fun σ' H' p' => ⟨n - (i + 1), by omega, rfl, hlt, p'⟩, fun x H' y => ?_⟩
    obtain ⟨e, y⟩ := y
    subst e y
    exact hs i σ _ hlt p
  · have e : i = n := by omega
    subst e
    exact .inl ⟨Nat.le_refl _, hd σ H p⟩
/-! ### the forms of a comprehension that one uses -/
theorem comp_range {lo : Int} {n : Nat} {D : Addr} {g : TG} {tt : TT} {te : TE} {σ0 : St} {H0 : Hp} {Q : Hp → Prop} (Pv : Nat → St → Hp → Prop) (h0 : Pv 0 σ0 H0)
    (hs : ∀ i σ H, i < n → Pv i σ H → g (.int (lo + i)) σ H fun σ2 H3 => tt σ2 H3 fun b H4 => if b = true then te σ2 H4 fun v H5 => ∃ ys, H5 D = some (.lst ys) ∧ ys.length < sizeLine ∧ Pv (i + 1) σ2 (upd H5 D (.lst (ys ++ [v]))) else Pv (i + 1) σ2 H4)
    (hd : ∀ σ H, Pv n σ H → Q H) : compRead (Itr lo n) D g tt te σ0 H0 Q := by
  refine ⟨fun i m σ H => m = n - i ∧ i ≤ n ∧ Pv i σ H, ⟨n, by simp, Nat.zero_le _, h0⟩, ?_⟩
  rintro i m σ H ⟨rfl, hi, p⟩
  by_cases hlt : i < n
  · refine .inr ⟨hlt, Pv (i + 1), fun σ' H' p' => ⟨n - (i + 1), by omega, rfl, hlt, p'⟩, fun x H' y => ?_⟩
    obtain ⟨e, y⟩ := y
    subst e y
    exact hs i σ _ hlt p
  · have e : i = n := by omega
    subst e
    exact .inl ⟨Nat.le_refl _, hd σ H p⟩
theorem comp_list {K : PySem.W.Frag} {a : Addr} {xs : List V} {D : Addr} {g : TG} {tt : TT} {te : TE} {σ0 : St} {H0 : Hp} {Q : Hp → Prop} (Pv : Nat → St → Hp → Prop) (h0 : Pv 0 σ0 H0) (hl : ∀ i σ H, i ≤ xs.length → Pv i σ H → SqL K H a xs)
    (hs : ∀ i x σ H, xs[i]? = some x → Pv i σ H → g x σ H fun σ2 H3 => tt σ2 H3 fun b H4 => if b = true then te σ2 H4 fun v H5 => ∃ ys, H5 D = some (.lst ys) ∧ ys.length < sizeLine ∧ Pv (i + 1) σ2 (upd H5 D (.lst (ys ++ [v]))) else Pv (i + 1) σ2 H4)
    (hd : ∀ σ H, Pv xs.length σ H → Q H) : compRead (Itl K a) D g tt te σ0 H0 Q := by
  refine ⟨fun i m σ H => m = xs.length - i ∧ i ≤ xs.length ∧ Pv i σ H, ⟨xs.length, by simp, Nat.zero_le _, h0⟩, ?_⟩
  rintro i m σ H ⟨rfl, hi, p⟩
  have q := hl i σ H hi p
  by_cases hlt : i < xs.length
  · refine .inr ⟨⟨xs, xs[i], q, by simp [hlt]⟩, Pv (i + 1), fun σ' H' p' => ⟨xs.length - (i + 1), by omega, rfl, hlt, p'⟩, fun x H' y => ?_⟩
    obtain ⟨e, y⟩ := y
    subst e
    exact hs i x σ _ (y xs q) p
  · have e : i = xs.length := by omega
    subst e
    exact .inl ⟨⟨xs, q, Nat.le_refl _⟩, hd σ H p⟩
end
end L2

set_option Elab.async false
set_option maxRecDepth 100000
set_option maxHeartbeats 4000000
namespace L2
open PySem PySem.Spec PyProof.Rows
/-! ### enumerate over a list -/
section
variable {X : Cx}
theorem boot_enum : bootBuiltins "enumerate" = some (.type "enumerate") := by decide +kernel
end
end L2

set_option Elab.async false
set_option maxRecDepth 100000
set_option maxHeartbeats 4000000
namespace L2
open PySem PySem.Spec PyProof.Rows
/-! ### list(enumerate(list)) -/
section
variable {prog : Program} {w : World} {A : Around} {E : Value → Shared → Prop} {s : Shared}
/-- an enumerate whose tuple at a is out -/
def EnX (h : Heap) (e it : Addr) (i : Int) (old : Value) (a : Addr) (f : Bool) : Prop :=
  h.get? e = some { cls := .type "enumerate", dict := none, data := .fields #[rawInt a, .bool f, .ref it, rawInt i, .none, old], slots := #[] }
theorem fld {e : Addr} {vs : Array Value} {n : Nat} {x : Value} {Q : Value → Shared → Prop} (he : s.heap.get? e = some { cls := .type "enumerate", dict := none, data := .fields vs, slots := #[] }) (hx : vs[n]? = some x) (h : Q x s) :
    wpAny (model prog w) A (field (.ref e) n) Q E s := wpAny_field he rfl hx h
theorem enx_next {e it l a : Addr} {i : Nat} {items : Array Value} {x old : Value} {f : Bool} {oa : Obj} {Q : Option Value → Shared → Prop} (he : EnX s.heap e it i old a f) (ha : s.heap.get? a = some oa) (hae : a ≠ e) (hai : a ≠ it)
    (hit : s.heap.IsListIter it l i) (hl : s.heap.IsList l items) (hx : items[i]? = some x) (hne : e ≠ it)
    (hQ : ∀ h', EnX h' e it ((i : Int) + 1) old a true → h'.IsListIter it l (i + 1) → h'.get? s.heap.objs.size = some { cls := .type "tuple", data := .seq #[.int i s.toks, x] } → h'.objs.size = s.heap.objs.size + 1 →
      (∀ b o, b ≠ e → b ≠ it → s.heap.get? b = some o → h'.get? b = some o) → Q (some (.ref s.heap.objs.size)) { s with heap := h', toks := s.toks + 1 }) :
    wpAny (model prog w) A (pyNext (.ref e)) Q E s := by
  obtain ⟨hp, gg, dd, tk, oo⟩ := s
  have ty : Shared.TypeIs ⟨hp, gg, dd, tk, oo⟩ (.ref e) "enumerate" := ⟨_, he, rfl⟩
  unfold pyNext
  refine wpAny_bind (wpAny_attempt (wpAny_callSpecial?_slot (name := Str.ofString "__next__") ty F.slot_enumerate_next (wpAny_call_entry F.slot_enumerate_next ty F.entry_enumerate_next ?_ (F.args_enumerate_next_1 _))))
  show wpAny _ _ (field (.ref e) 2 >>= _) _ _ _
  refine wpAny_bind (fld he (x := .ref it) rfl (wpAny_bind (wpAny_nextOf_list_item hit hl hx fun k1 j1 sb1 => ?_)))
  have sb1' : Heap.SameBut it hp k1 := sb1
  have e1 : EnX k1 e it i old a f := (sb1'.2 e hne).trans he
  show wpAny _ _ (field (.ref e) 3 >>= _) _ _ ⟨k1, gg, dd, tk, oo⟩
  refine wpAny_bind (fld e1 (x := rawInt i) rfl (wpAny_bind (fld e1 (x := .none) rfl ?_)))
  show wpAny _ _ (mkInt i >>= _) _ _ ⟨k1, gg, dd, tk, oo⟩
  refine wpAny_bind (wpAny_mkInt ?_)
  show wpAny _ _ (setField (.ref e) 3 (rawInt ((i : Int) + 1)) >>= _) _ _ ⟨k1, gg, dd, tk + 1, oo⟩
  refine wpAny_bind (wpAny_setField_rec e1 (by simp) fun k2 e2 sb2 => ?_)
  have sb2' : Heap.SameBut e k1 k2 := sb2
  have e2' : EnX k2 e it ((i : Int) + 1) old a f := e2
  show wpAny _ _ (setField (.ref e) 4 .none >>= _) _ _ ⟨k2, gg, dd, tk + 1, oo⟩
  refine wpAny_bind (wpAny_setField_rec e2' (by simp) fun k3 e3 sb3 => ?_)
  have sb3' : Heap.SameBut e k2 k3 := sb3
  have e3' : EnX k3 e it ((i : Int) + 1) old a f := e3
  show wpAny _ _ (newTuple [.int i tk, x] >>= _) _ _ ⟨k3, gg, dd, tk + 1, oo⟩
  refine wpAny_bind (wpAny_newTuple ?_)
  have z3 : k3.objs.size = hp.objs.size := by rw [sb3'.1, sb2'.1, sb1'.1]
  have elt : e < hp.objs.size := Heap.lt_size he
  have kp : ∀ b o, b ≠ e → b ≠ it → hp.get? b = some o → k3.get? b = some o := fun b o b1 b2 q => sb3'.extBut b o b1 (sb2'.extBut b o b1 (sb1'.extBut b o b2 q))
  have fin : ∀ k5 : Heap, EnX k5 e it ((i : Int) + 1) old a true → Heap.SameBut e (k3.push { cls := .type "tuple", data := .seq #[.int i tk, x] }) k5 → Q (some (.ref hp.objs.size)) ⟨k5, gg, dd, tk + 1, oo⟩ := fun k5 e5 sb5 => by
    refine hQ k5 e5 ?_ (sb5.extBut _ _ (Nat.ne_of_gt elt) (by rw [← z3]; exact Heap.get?_push_size _ rfl)) (by rw [sb5.1, Heap.size_push, z3]) fun b o b1 b2 q => sb5.extBut b o b1 (Heap.get?_push_of_some _ (kp b o b1 b2 q))
    obtain ⟨o, ho, r⟩ := (j1.extBut sb2'.extBut (Ne.symm hne)).extBut sb3'.extBut (Ne.symm hne)
    exact ⟨o, sb5.extBut it o (Ne.symm hne) (Heap.get?_push_of_some _ ho), r⟩
  have e4 : EnX (k3.push { cls := .type "tuple", data := .seq #[.int i tk, x] }) e it ((i : Int) + 1) old a f := Heap.get?_push_of_some _ e3'
  have a4 : (k3.push { cls := .type "tuple", data := .seq #[.int i tk, x] }).get? a = some oa := Heap.get?_push_of_some _ (kp a oa hae hai ha)
  show wpAny _ _ (Builtin.SmallTypes.ownedTupleIsFree (.ref e) >>= _) _ _ ⟨k3.push { cls := .type "tuple", data := .seq #[.int i tk, x] }, gg, dd, tk + 1, oo⟩
  rw [z3]
  refine wpAny_bind ?_
  unfold Builtin.SmallTypes.ownedTupleIsFree
  refine wpAny_bind (fld e4 (x := rawInt a) rfl ?_)
  show wpAny _ _ (loadIfAlive ((a : Int).toNat) >>= _) _ _ _
  rw [Int.toNat_natCast]
  refine wpAny_bind (PySem.W.kdx_alive a4 ?_)
  simp only [Option.isNone_some, Bool.false_eq_true, if_false]
  refine wpAny_bind (fld e4 (x := .bool f) rfl ?_)
  cases f with
  | true => exact wpAny_pure (wpAny_pure ⟨_, rfl, wpAny_pure (fin _ e4 (Heap.SameBut.refl _ _))⟩)
  | false => exact wpAny_bind (wpAny_setField_rec e4 (by simp) fun k5 e5 sb5 => wpAny_pure (wpAny_pure ⟨_, rfl, wpAny_pure (fin k5 e5 sb5)⟩))
theorem enx_end {e it l a : Addr} {i : Nat} {items : Array Value} {old : Value} {f : Bool} {Q : Option Value → Shared → Prop} (hh : A.handled = none) (he : EnX s.heap e it i old a f)
    (hit : s.heap.IsListIter it l i) (hl : s.heap.IsList l items) (hx : items[i]? = none) (hQ : ∀ h', Heap.ExtBut it s.heap h' → Q none { s with heap := h' }) : wpAny (model prog w) A (pyNext (.ref e)) Q E s := by
  have ty : s.TypeIs (.ref e) "enumerate" := ⟨_, he, rfl⟩
  unfold pyNext
  refine wpAny_bind (wpAny_attempt (wpAny_callSpecial?_slot (name := Str.ofString "__next__") ty F.slot_enumerate_next (wpAny_call_entry F.slot_enumerate_next ty F.entry_enumerate_next ?_ (F.args_enumerate_next_1 _))))
  show wpAny _ _ (field (.ref e) 2 >>= _) _ _ _
  refine wpAny_bind (fld he (x := .ref it) rfl (wpAny_bind (wpAny_nextOf_list_end hh hit hl hx fun h' y q1 q2 => ?_)))
  obtain ⟨o, ho, hc⟩ := q2
  exact wpAny_bind (wpAny_isInstance (T := "StopIteration") (b := true) ⟨o, ho, hc⟩ isSubtype_stop (wpAny_pure (hQ _ q1)))
end
end L2
namespace L2
open PySem PySem.Spec PyProof.Rows
/-- the enumerate at turn i; its tuples are not the list S that is filled -/
def EnSt (h : Heap) (e it l S : Addr) (i : Nat) : Prop :=
  ((i = 0 ∧ ∃ old, IsEnum h e it 0 old) ∨ ∃ old a f oa, EnX h e it i old a f ∧ h.get? a = some oa ∧ a ≠ e ∧ a ≠ it ∧ a ≠ S) ∧ h.IsListIter it l i
/-- the pairs told so far, all above lo -/
def EnTs (h : Heap) (items : Array Value) (lo : Nat) (as : List Addr) : Prop :=
  as.Pairwise (· < ·) ∧ ∀ (j : Nat) (a : Addr), as[j]? = some a → lo ≤ a ∧ ∃ t x, items[j]? = some x ∧ h.get? a = some { cls := .type "tuple", data := .seq #[.int j t, x] }
section
variable {prog : Program} {w : World} {A : Around} {s : Shared} {R : Result → Shared → Prop}
theorem en_loop {S e it l : Addr} {items : Array Value} {lo : Nat} {h1 : Heap} (hh : A.handled = none) (hne : e ≠ it) (hSe : S ≠ e) (hSi : S ≠ it) (hlS : l ≠ S) (hle : l ≠ e) (hli : l ≠ it) (hn : items.size ≤ sizeLine) (heL : e < lo) (hiL : it < lo) (hSL : S < lo) (res : Value)
    (hR : ∀ h' tk c as, (∀ b o, b ≠ S → b ≠ e → b ≠ it → h1.get? b = some o → h'.get? b = some o) → h'.get? S = some { cls := .type "list", dict := none, data := .seq (as.map Value.ref).toArray c, slots := #[] } → as.length = items.size → EnTs h' items lo as → R (.ok (.ret res)) { s with heap := h', toks := tk }) :
    ∀ (k i : Nat) (h : Heap) (tk c : Nat) (as : List Addr), items.size - i = k → i ≤ items.size → EnSt h e it l S i → h.IsList l items → (∀ b o, b ≠ S → b ≠ e → b ≠ it → h1.get? b = some o → h.get? b = some o) →
      h.get? S = some { cls := .type "list", dict := none, data := .seq (as.map Value.ref).toArray c, slots := #[] } → as.length = i → EnTs h items lo as → lo ≤ h.objs.size →
      codeAny (model prog w) A (.builtin "list.extend.loop" ⟨[.ref S, .ref e, res], []⟩) R { s with heap := h, toks := tk } := by
  intro k
  induction k with
  | zero =>
    intro i h tk c as hk hi hst hl kp hS hal hG hlo
    have hx : items[i]? = none := by simp; omega
    refine codeAny_builtin F.entry_extend_loop ?_
    rw [Around.under_plainId F.plain_extend_loop _]
    show wpAny _ A.in1 (pyNext (.ref e) >>= _) _ _ _
    have fin : ∀ h', Heap.ExtBut it h h' → R (.ok (.ret res)) { s with heap := h', toks := tk } := fun h' eb =>
      hR h' tk c as (fun b o a1 a2 a3 q => eb b o a3 (kp b o a1 a2 a3 q)) (eb S _ hSi hS) (by omega) ⟨hG.1, fun j a q => by
        obtain ⟨z1, t, x, z2, z3⟩ := hG.2 j a q
        exact ⟨z1, t, x, z2, eb a _ (Nat.ne_of_gt (Nat.lt_of_lt_of_le hiL z1)) z3⟩⟩
    obtain ⟨h0, hit⟩ := hst
    rcases h0 with ⟨rfl, old, he⟩ | ⟨old, a, f, oa, he, _⟩
    · exact wpAny_bind (wpAny_pyNext_enum_end (s := { s with heap := h, toks := tk }) (A := A.in1) hh he hit hl hx fun h' eb => wpAny_pure (fin h' eb))
    · exact wpAny_bind (enx_end (s := { s with heap := h, toks := tk }) (A := A.in1) hh he hit hl hx fun h' eb => wpAny_pure (fin h' eb))
  | succ k ih =>
    intro i h tk c as hk hi hst hl kp hS hal hG hlo
    have hlt : i < items.size := by omega
    obtain ⟨x, hx⟩ : ∃ x, items[i]? = some x := ⟨items[i], by simp [hlt]⟩
    refine codeAny_builtin F.entry_extend_loop ?_
    rw [Around.under_plainId F.plain_extend_loop _]
    show wpAny _ A.in1 (pyNext (.ref e) >>= _) _ _ _
    have hSz : S < h.objs.size := Heap.lt_size hS
    have nxt : ∀ h', (∃ old a f oa, EnX h' e it ((i : Int) + 1) old a f ∧ h'.get? a = some oa ∧ a ≠ e ∧ a ≠ it ∧ a ≠ S) → h'.IsListIter it l (i + 1) → h'.get? h.objs.size = some { cls := .type "tuple", data := .seq #[.int i tk, x] } → h'.objs.size = h.objs.size + 1 →
        (∀ b o, b ≠ e → b ≠ it → h.get? b = some o → h'.get? b = some o) → wpAny (model prog w) A.in1 (updateSeq S (·.push (Value.ref h.objs.size)) >>= fun _ => again (.builtin "list.extend.loop" ⟨[.ref S, .ref e, res], []⟩))
          (fun fin s' => match fin with | .done f => R (.ok f) s' | .again c' => c'.quiet = true ∧ codeAny (model prog w) A c' R s') (fun x s' => R (.error x) s') { s with heap := h', toks := tk + 1 } := by
      intro h' hX hit' ht hz hk'
      have hS' := hk' S _ hSe hSi hS
      have up : ∀ b o, b ≠ S → h'.get? b = some o → (h'.update S (Obj.mapSeq (·.push (Value.ref h.objs.size)))).get? b = some o := fun b o hb q => (Heap.get?_update_other _ _ (Ne.symm hb)).trans q
      have hasz : (as.map Value.ref).toArray.size = i := by simp [hal]
      refine wpAny_bind (wpAny_updateSeq hS' rfl (wpAny_pure ⟨plainId_quiet F.plain_extend_loop _, ?_⟩) (by rw [hasz]; omega) (by rw [Array.size_push, hasz]; omega))
      have hS2 := Heap.get?_update_self (Obj.mapSeq (·.push (Value.ref h.objs.size))) hS' rfl
      refine ih (i + 1) _ (tk + 1) _ (as ++ [h.objs.size]) (by omega) hlt ?_ ?_ ?_ (by rw [hS2]; simp [Obj.mapSeq]; exact rfl) (by simp [hal]) ?_ ?_
      · obtain ⟨old, a, f, oa, q1, q2, q3, q4, q5⟩ := hX
        refine ⟨.inr ⟨old, a, f, oa, ?_, up a _ q5 q2, q3, q4, q5⟩, hit'.at fun o q => up it o (Ne.symm hSi) q⟩
        have e' : ((i + 1 : Nat) : Int) = (i : Int) + 1 := by omega
        rw [e']
        exact up e _ (Ne.symm hSe) q1
      · exact (hl.at fun o q => hk' l o hle hli q).at fun o q => up l o hlS q
      · exact fun b o a1 a2 a3 q => up b o a1 (hk' b o a2 a3 (kp b o a1 a2 a3 q))
      · refine ⟨List.pairwise_append.mpr ⟨hG.1, List.pairwise_singleton _ _, fun a ha b hb => ?_⟩, fun j a q => ?_⟩
        · rw [List.mem_singleton.mp hb]
          obtain ⟨j, hj⟩ := List.mem_iff_getElem?.mp ha
          obtain ⟨_, _, _, _, z⟩ := hG.2 j a hj
          exact Heap.lt_size z
        · rcases Nat.lt_trichotomy j as.length with c1 | c1 | c1
          · rw [List.getElem?_append_left c1] at q
            obtain ⟨z1, t, y, z2, z3⟩ := hG.2 j a q
            exact ⟨z1, t, y, z2, up a _ (Nat.ne_of_gt (Nat.lt_of_lt_of_le hSL z1)) (hk' a _ (Nat.ne_of_gt (Nat.lt_of_lt_of_le heL z1)) (Nat.ne_of_gt (Nat.lt_of_lt_of_le hiL z1)) z3)⟩
          · subst c1
            have ea : h.objs.size = a := by simpa using q
            subst ea
            exact ⟨hlo, tk, x, by rw [hal]; exact hx, by rw [hal]; exact up _ _ (Nat.ne_of_gt hSz) ht⟩
          · rw [List.getElem?_eq_none (by simp; omega)] at q
            cases q
      · rw [Heap.size_update, hz]; omega
    have elt : e < h.objs.size := Nat.lt_of_lt_of_le heL hlo
    have ilt : it < h.objs.size := Nat.lt_of_lt_of_le hiL hlo
    obtain ⟨h0, hit⟩ := hst
    rcases h0 with ⟨rfl, old, he⟩ | ⟨old, a, f, oa, he, q2, q3, q4, q5⟩
    · exact wpAny_bind (wpAny_pyNext_enum_item (s := { s with heap := h, toks := tk }) (A := A.in1) he hit hl hx hne fun h' b1 b2 b3 b4 b5 => nxt h' ⟨x, _, false, _, b1, b3, Nat.ne_of_gt elt, Nat.ne_of_gt ilt, Nat.ne_of_gt hSz⟩ b2 b3 b4 b5)
    · exact wpAny_bind (enx_next (s := { s with heap := h, toks := tk }) (A := A.in1) he q2 q3 q4 hit hl hx hne fun h' b1 b2 b3 b4 b5 => nxt h' ⟨old, a, true, oa, b1, b5 a oa q3 q4 q2, q3, q4, q5⟩ b2 b3 b4 b5)
end
theorem enum_no_len : typeLookup (.type "enumerate") "__len__" = pure none := by rw [typeLookup_type, builtinLookup_eq_fast]; kernel_rfl
theorem enum_no_hint : typeLookup (.type "enumerate") "__length_hint__" = pure none := by rw [typeLookup_type, builtinLookup_eq_fast]; kernel_rfl
section
variable {prog : Program} {w : World} {A : Around} {E : Value → Shared → Prop} {s : Shared}
/-- list(e), e a new enumerate of the list at l -/
theorem call_list_enum {e it l : Addr} {items : Array Value} {Q : Value → Shared → Prop} (hh : A.handled = none) (he : IsEnum s.heap e it 0 .none) (hit : s.heap.IsListIter it l 0) (hl : s.heap.IsList l items) (hne : e ≠ it) (hle : l ≠ e) (hli : l ≠ it) (hn : items.size ≤ sizeLine)
    (hQ : ∀ h' tk c as, (∀ b o, b ≠ e → b ≠ it → s.heap.get? b = some o → h'.get? b = some o) → h'.get? s.heap.objs.size = some { cls := .type "list", dict := none, data := .seq (as.map Value.ref).toArray c, slots := #[] } → as.length = items.size → EnTs h' items (s.heap.objs.size + 1) as →
      Q (.ref s.heap.objs.size) { s with heap := h', toks := tk }) : wpAny (model prog w) A (call (.type "list") [.ref e]) Q E s := by
  have elt : e < s.heap.objs.size := Heap.lt_size he
  have ilt : it < s.heap.objs.size := by obtain ⟨o, q, _⟩ := hit; exact Heap.lt_size q
  have llt : l < s.heap.objs.size := by obtain ⟨o, q, _⟩ := hl; exact Heap.lt_size q
  refine callType_codes (Q₁ := fun ob s1 => ob = .ref s.heap.objs.size ∧ s1 = { s with heap := s.heap.push { cls := .type "list", data := .seq #[] } }) F.called_list (F.typeCall_list_1 _) F.entry_list_init (code_list_new _ ⟨rfl, rfl⟩) fun ob s1 q1 => ?_
  obtain ⟨rfl, rfl⟩ := q1
  have hS : (s.heap.push { cls := .type "list", data := .seq #[] }).get? s.heap.objs.size = some { cls := .type "list", data := .seq #[] } := Heap.get?_push_size _ rfl
  refine ⟨⟨_, hS, rfl⟩, F.args_list_init_2 _ _, ?_⟩
  show wpAny _ A.in1.in1 (do let old ← Builtin.List.listItems (.ref s.heap.objs.size); Builtin.List.listUpdate (.ref s.heap.objs.size) (fun _ => #[]); letGo old.toList.reverse; Builtin.List.listExtendWith (.ref s.heap.objs.size) (.ref e) .none) _ _ _
  refine wpAny_bind (listItems_at hS rfl (wpAny_bind (listUpdate_at hS rfl (wpAny_bind (wpAny_letGo ?_)))))
  have hS2 := Heap.get?_update_self (Obj.mapSeq (fun _ => (#[] : Array Value))) hS rfl
  have oth : ∀ b o, b < s.heap.objs.size → s.heap.get? b = some o → ((s.heap.push { cls := .type "list", data := .seq #[] }).update s.heap.objs.size (Obj.mapSeq (fun _ => (#[] : Array Value)))).get? b = some o :=
    fun b o hb q => (Heap.get?_update_other _ _ (Nat.ne_of_gt hb)).trans (Heap.get?_push_of_some _ q)
  have hz : ((s.heap.push { cls := .type "list", data := .seq #[] }).update s.heap.objs.size (Obj.mapSeq (fun _ => (#[] : Array Value)))).objs.size = s.heap.objs.size + 1 := by rw [Heap.size_update, Heap.size_push]
  generalize hH : (s.heap.push { cls := .type "list", data := .seq #[] }).update s.heap.objs.size (Obj.mapSeq (fun _ => (#[] : Array Value))) = h2 at hS2 oth hz ⊢
  have he2 : IsEnum h2 e it 0 .none := oth e _ elt he
  have hT : Shared.TypeIs { s with heap := h2 } (.ref e) "enumerate" := ⟨_, he2, rfl⟩
  unfold Builtin.List.listExtendWith
  refine wpAny_bind (wpAny_typeOf hT ?_)
  have c1 : Builtin.List.listSameRef (.ref s.heap.objs.size) (.ref e) = false := by simp [Builtin.List.listSameRef]; exact Nat.ne_of_gt elt
  simp only [c1, show (Value.type "enumerate" == Value.type "list") = false by decide, show (Value.type "enumerate" == Value.type "tuple") = false by decide, Bool.or_false, Bool.false_eq_true, if_false]
  refine wpAny_bind (wpAny_pyIter_enum he2 (wpAny_bind (wpAny_holding ?_)))
  unfold Builtin.List.listLengthHint
  refine wpAny_bind (wpAny_specialOf hT enum_no_len ?_)
  show wpAny _ _ (specialOf (Value.ref e) (Str.ofString "__length_hint__") >>= _) _ _ _
  refine wpAny_bind (wpAny_specialOf hT enum_no_hint (wpAny_pure ?_))
  show wpAny _ _ (rule "list.extend.makes-room" >>= fun _ => Builtin.List.listTouch (.ref s.heap.objs.size) >>= fun _ => again (.builtin "list.extend.loop" ⟨[.ref s.heap.objs.size, .ref e, .none], []⟩)) _ _ _
  refine wpAny_bind (wpAny_rule (wpAny_bind ?_))
  show wpAny _ _ (updateSeq s.heap.objs.size (·.push .none) >>= fun _ => updateSeq s.heap.objs.size (·.pop)) _ _ _
  refine wpAny_bind (wpAny_updateSeq hS2 rfl ?_ (by simp) (by rw [sizeLine_eq]; decide))
  have hS3 := Heap.get?_update_self (Obj.mapSeq (·.push Value.none)) hS2 rfl
  refine wpAny_updateSeq hS3 rfl ?_ (by rw [sizeLine_eq]; decide) (by rw [sizeLine_eq]; decide)
  have hS4 := Heap.get?_update_self (Obj.mapSeq (·.pop)) hS3 rfl
  have oth2 : ∀ b o, b < s.heap.objs.size → s.heap.get? b = some o → ((h2.update s.heap.objs.size (Obj.mapSeq (·.push Value.none))).update s.heap.objs.size (Obj.mapSeq (·.pop))).get? b = some o :=
    fun b o hb q => (Heap.get?_update_other _ _ (Nat.ne_of_gt hb)).trans ((Heap.get?_update_other _ _ (Nat.ne_of_gt hb)).trans (oth b o hb q))
  refine wpAny_pure ⟨plainId_quiet F.plain_extend_loop _, ?_⟩
  refine en_loop (A := A.in1) (R := wants (fun r s2 => r = .none ∧ Q (.ref s.heap.objs.size) s2) E) (s := s) (h1 := s.heap) (lo := s.heap.objs.size + 1) (e := e) (it := it) (l := l) (items := items) hh hne (Nat.ne_of_gt elt) (Nat.ne_of_gt ilt) (Nat.ne_of_lt llt) hle hli hn (Nat.lt_succ_of_lt elt) (Nat.lt_succ_of_lt ilt) (Nat.lt_succ_self _) .none
    (fun h' tk c as k1 k2 k3 k4 => ⟨rfl, hQ h' tk c as (fun b o b1 b2 q => k1 b o (Nat.ne_of_lt (Heap.lt_size q)) b1 b2 q) k2 k3 k4⟩) items.size 0 _ _ _ [] (Nat.sub_zero _) (Nat.zero_le _) ⟨.inl ⟨rfl, .none, oth2 e _ elt he⟩, hit.at fun o q => oth2 it o ilt q⟩
    (hl.at fun o q => oth2 l o llt q) (fun b o _ _ _ q => oth2 b o (Heap.lt_size q) q) (by rw [hS4]; rfl) rfl ⟨List.Pairwise.nil, fun j a q => by simp at q⟩ (by rw [Heap.size_update, Heap.size_update, hz]; exact Nat.le_refl _)
end
end L2
namespace L2
open PySem PySem.Spec PyProof.Rows
section
variable {X : Cx} {pins : List (Addr × Obj)} {σ : St} {H H' : Hp} {s : Shared} {h' : Heap}
/-- new objects are tracked, all elder ones are kept -/
theorem Inv.grow {t' : Nat} (I : Inv X pins σ H s) (k : ∀ b u, s.heap.get? b = some u → h'.get? b = some u) (e : ∀ b, b < s.heap.objs.size → H' b = H b) (new : ∀ b o, s.heap.objs.size ≤ b → H' b = some o → ObjOk X.prog X.w H' h' b o) :
    Inv X pins σ H' { s with heap := h', toks := t' } := by
  have up : ∀ b o, H b = some o → H' b = some o := fun b o q => by rw [e b (I.hok.lt q)]; exact q
  refine I.un ⟨fun b o q _ _ _ => k b o q, fun b o q _ _ _ => ⟨o.slots, k b o q⟩, fun b o q n _ => by rw [e b (Heap.lt_size q)]; exact n, fun b o q _ => ⟨o, k b o q⟩, fun b xs q => up b _ q, fun b o u q => up b _ q, fun b ps q => ⟨#[], by rw [up b _ q]; simp⟩⟩ fun b o q => ?_
  by_cases hb : b < s.heap.objs.size
  · rw [e b hb] at q
    exact (I.hok b o q).stay (fun c u _ q' => k c u q') (fun c q' => up c _ q') fun c xs q' => up c _ q'
  · exact new b o (Nat.le_of_not_lt hb) q
end
section
variable {X : Cx}
/-- list(enumerate(a)): a new list of new pairs -/
def tEnumL (K : PySem.W.Frag) (ta : TA) : TE := fun σ H Q => ta σ H fun vs H1 => ∃ a xs, vs = [.ref a] ∧ SqL K H1 a xs ∧ ∀ (D : Addr) (as : List Addr) (H2 : Hp), Same H1 H2 → H1 D = none → H2 D = some (.lst (as.map V.ref)) → as.length = xs.length →
  (∀ (j : Nat) (x : V), xs[j]? = some x → ∃ b, as[j]? = some b ∧ H2 b = some (.tup [.int j, x])) → Q (.ref D) H2
theorem pairs_rise {as : List Addr} (h : as.Pairwise (· < ·)) {j : Nat} {b : Addr} (hb : as[j]? = some b) : as.findIdx? (· == b) = some j := by
  rw [List.findIdx?_eq_some_iff_getElem]
  obtain ⟨hj, e⟩ := List.getElem?_eq_some_iff.mp hb
  refine ⟨hj, by simp [e], fun i hi => ?_⟩
  have := List.pairwise_iff_getElem.mp h i j (by omega) hj hi
  rw [e] at this
  simpa using Nat.ne_of_lt this
def enH (H : Hp) (n : Nat) (as : List Addr) (xs : List V) : Hp := fun b => if b < n then H b else if b = n + 2 then some (.lst (as.map V.ref)) else match as.findIdx? (· == b) with
  | some j => (xs[j]?).map fun x => .tup [.int j, x]
  | none => none
theorem enH_old {H : Hp} {n : Nat} {as : List Addr} {xs : List V} {b : Addr} (h : b < n) : enH H n as xs b = H b := if_pos h
theorem enH_D {H : Hp} {n : Nat} {as : List Addr} {xs : List V} : enH H n as xs (n + 2) = some (.lst (as.map V.ref)) := by
  unfold enH
  rw [if_neg (show ¬ n + 2 < n by omega), if_pos rfl]
theorem enH_T {H : Hp} {n : Nat} {as : List Addr} {xs : List V} (h : as.Pairwise (· < ·)) {j : Nat} {b : Addr} {x : V} (hb : n + 3 ≤ b) (z1 : as[j]? = some b) (z2 : xs[j]? = some x) : enH H n as xs b = some (.tup [.int j, x]) := by
  unfold enH
  rw [if_neg (Nat.not_lt.mpr (Nat.le_trans (Nat.le_add_right n 3) hb)), if_neg (Nat.ne_of_gt (Nat.lt_of_lt_of_le (Nat.lt_succ_self _) hb)), pairs_rise h z1]
  show (xs[j]?).map _ = _
  rw [z2]; rfl
theorem enH_new {H : Hp} {n : Nat} {as : List Addr} {xs : List V} {b : Addr} {o : HO} (hb : n ≤ b) (z : enH H n as xs b = some o) : (b = n + 2 ∧ o = .lst (as.map V.ref)) ∨ ∃ (j : Nat) (x : V), as[j]? = some b ∧ xs[j]? = some x ∧ o = .tup [.int j, x] := by
  unfold enH at z
  rw [if_neg (Nat.not_lt.mpr hb)] at z
  by_cases hD : b = n + 2
  · rw [if_pos hD] at z
    exact .inl ⟨hD, (Option.some.inj z).symm⟩
  · rw [if_neg hD] at z
    cases f : as.findIdx? (· == b) with
    | none => rw [f] at z; cases z
    | some j =>
      rw [f] at z
      obtain ⟨hj, hb2, _⟩ := List.findIdx?_eq_some_iff_getElem.mp f
      have hb3 : as[j]? = some b := by rw [List.getElem?_eq_getElem hj]; exact congrArg some (by simpa using hb2)
      cases hx : xs[j]? with
      | none =>
        have z' : (xs[j]?).map (fun x => HO.tup [.int j, x]) = some o := z
        rw [hx] at z'; cases z'
      | some x =>
        have z' : (xs[j]?).map (fun x => HO.tup [.int j, x]) = some o := z
        rw [hx] at z'
        exact .inr ⟨j, x, hb3, hx, (Option.some.inj z').symm⟩
theorem refs_vals : ∀ as : List Addr, Vals (as.map V.ref) (as.map Value.ref)
  | [] => .nil
  | _ :: as => .cons rfl (refs_vals as)
theorem pe_enumL {l : Expr} {ta : TA} {p p2 pos pos2 : Pos} (hc : X.calm = true) (hg : Gl X "list") (hm : X.mg "list" = none) (hg2 : Gl X "enumerate") (hm2 : X.mg "enumerate" = none) (ha : PA X [l] ta) (hs : starEach [l] X.env = [(false, eval l X.env)] := by rfl) :
    PE X (.Call (.Name "list" p) [.Call (.Name "enumerate" p2) [l] [] pos2] [] pos) (tEnumL X.K ta) := by
  intro pins s σ H Q I h
  refine wpAny_Call_Name_kw (ld_blt I hg hm (show bootBuiltins "list" = some (.type "list") by decide +kernel) ?_)
  refine PyProof.Rows.callWith_type1 ?_ rfl rfl
  show wpAny _ _ (spliced ((false, eval (.Call (.Name "enumerate" p2) [l] [] pos2) X.env) :: [])) _ _ s
  refine Calls.spliced_cons ?_
  refine Call_ (ld_blt I hg2 hm2 boot_enum (PyProof.Rows.callWith_type1 (thn (ha pos2 pins s σ H _ I h) fun us s1 ⟨vs, H1, I1, r1, q1⟩ => ?_) hs rfl))
  obtain ⟨a, xs, e, hxs, q⟩ := q1
  subst e
  obtain ⟨u, rfl, ru⟩ := vals1 r1
  cases ru
  obtain ⟨its, rv, pl, hz⟩ := I1.list hxs
  have hlen := rv.length
  have alt : a < s1.heap.objs.size := by obtain ⟨o, z, _⟩ := pl.isList; exact Heap.lt_size z
  refine call_enumerate_list pl.isList fun h1 he hit hsz hk => Calls.spliced_nil ?_
  refine call_list_enum (s := { s1 with heap := h1 }) (I1.ok.hd hc) he hit (pl.isList.at fun o z => hk a o z) (Nat.ne_of_gt (Nat.lt_succ_self _)) (Nat.ne_of_lt (Nat.lt_succ_of_lt alt)) (Nat.ne_of_lt alt) (by simp only [List.size_toArray]; omega) fun h2 tk c as k1 k2 k3 k4 => ?_
  rw [hsz] at k2 k4 ⊢
  have k3' : as.length = xs.length := by rw [k3]; simp only [List.size_toArray]; omega
  have keepAll : ∀ b o, s1.heap.get? b = some o → h2.get? b = some o := fun b o z =>
    k1 b o (Nat.ne_of_lt (Nat.lt_succ_of_lt (Heap.lt_size z))) (Nat.ne_of_lt (Heap.lt_size z)) (hk b o z)
  have hgt : ∀ (j : Nat) (b : Addr), as[j]? = some b → s1.heap.objs.size + 3 ≤ b := fun j b z => (k4.2 j b z).1
  refine ⟨.ref (s1.heap.objs.size + 2), enH H1 s1.heap.objs.size as xs, ?_, rfl, q _ as _ (fun b o z => by rw [enH_old (I1.hok.lt z)]; exact z) (I1.hok.fresh (Nat.le_add_right _ _)) enH_D k3' fun j x z => ?_⟩
  · refine I1.grow (t' := tk) keepAll (fun b hb => enH_old hb) fun b o hb z => ?_
    rcases enH_new hb z with ⟨rfl, rfl⟩ | ⟨j, x, hb3, hx, rfl⟩
    · exact ⟨by rw [List.length_map]; omega, as.map Value.ref, c, refs_vals as, k2⟩
    · obtain ⟨_, t, y, y1, y2⟩ := k4.2 j b hb3
      obtain ⟨u, hu, ru⟩ := rv.get hx
      have : y = u := by
        have y1' : its[j]? = some y := by simpa using y1
        rw [hu] at y1'
        exact (Option.some.inj y1').symm
      subst this
      exact ⟨(by show 2 ≤ sizeLine; rw [sizeLine_eq]; decide), [.int j t, y], .cons ⟨_, rfl⟩ (.cons ru .nil), _, y2, rfl, 0, rfl⟩
  · have hj : j < as.length := by
      have := (List.getElem?_eq_some_iff.mp z).1
      omega
    exact ⟨as[j], List.getElem?_eq_getElem hj, enH_T k4.1 (hgt j _ (List.getElem?_eq_getElem hj)) (List.getElem?_eq_getElem hj) z⟩
/-- not a starred one -/
def plainE : Expr → Bool
  | .Starred .. => false
  | _ => true
theorem star_plain {e : Expr} {es : List Expr} {env : Env} (h : plainE e = true) : starEach (e :: es) env = (false, eval e env) :: starEach es env := by
  cases e <;> first | rfl | cases h
theorem pac {e : Expr} {es : List Expr} {te : TE} {t : TA} (ha : PE X e te) (hr : PA X es t) (hp : plainE e = true := by rfl) : PA X (e :: es) (tCons te t) := pa_cons ha hr (star_plain hp)
end
end L2

set_option Elab.async false
set_option maxRecDepth 100000
set_option maxHeartbeats 4000000
namespace L2
open PySem PySem.Spec PyProof.Rows

/-! ### heaps that grow, and heaps in which some places change -/
/-- all but what stands at the places S is as it was -/
def Kp (S : List Addr) (H H' : Hp) : Prop := ∀ b o, b ∉ S → H b = some o → H' b = some o
theorem Kp.trans {S : List Addr} {H H1 H2 : Hp} (a : Kp S H H1) (b : Kp S H1 H2) : Kp S H H2 := fun c o n q => b c o n (a c o n q)
theorem Same.kp {S : List Addr} {H H' : Hp} (a : Same H H') : Kp S H H' := fun b o _ q => a b o q
theorem Kp.one {x b : Addr} {H H' : Hp} {o : HO} (a : Kp [x] H H') (n : b ≠ x) (q : H b = some o) : H' b = some o := a b o (by simp [n]) q
theorem same_upd {H : Hp} {p : Addr} {o : HO} (h : H p = none) : Same H (upd H p o) := fun c u z => by rw [upd_ne (ne_of_none z h)]; exact z
theorem kp_upd {H : Hp} {p : Addr} {o : HO} : Kp [p] H (upd H p o) := fun c u n z => by rw [upd_ne (by simpa using n)]; exact z
/-- nothing new is taken for something old -/
theorem Kp.free {H H' : Hp} {S : List Addr} (a : Kp S H H') {p : Addr} (n : p ∉ S) (h : H' p = none) : H p = none := by
  cases q : H p with
  | none => rfl
  | some o => rw [a p o n q] at h; cases h

section
variable {X : Cx}
theorem PE.imp {e : Expr} {t t' : TE} (h : PE X e t) (i : ∀ σ H Q, t' σ H Q → t σ H Q) : PE X e t' := fun pins s σ H Q I w => h pins s σ H Q I (i σ H Q w)
theorem PI.imp {tg e : Expr} {t t' : TI} (h : PI X tg e t) (i : ∀ σ H Q, t' σ H Q → t σ H Q) : PI X tg e t' := fun pins s σ H Q I w => h pins s σ H Q I (i σ H Q w)
theorem CallR.imp {f : Value} {r r' : List V → Hp → VK → Prop} (h : CallR X f r) (i : ∀ xs H Q, r' xs H Q → r xs H Q) : CallR X f r' := fun pins s σ H xs us Q I rx w => h pins s σ H xs us Q I rx (i xs H Q w)
theorem PS.imp {e : Stmt} {t t' : TS} (h : PS X e t) (i : ∀ D σ H, t' D σ H → t D σ H) : PS X e t' := fun pins s σ H D I w => h pins s σ H D I (i D σ H w)

/-! ### names -/
def gt : St → Nat → Option V
  | [], _ => none
  | o :: _, 0 => o
  | _ :: r, n + 1 => gt r n
theorem gt_some : ∀ {σ : St} {i : Nat} {v : V}, gt σ i = some v → σ[i]? = some (some v)
  | [], _, _, h => by simp [gt] at h
  | o :: _, 0, _, h => by simp [gt] at h; simp [h]
  | _ :: r, n + 1, _, h => by simp [gt] at h; simpa using gt_some h
def mVar (i : Nat) : TE := fun σ H Q => match gt σ i with
  | some v => Q v H
  | none => False
theorem mVar_imp {i : Nat} {σ : St} {H : Hp} {Q : VK} (h : mVar i σ H Q) : tVar i σ H Q := by
  unfold mVar at h
  cases e : gt σ i with
  | none => rw [e] at h; exact h.elim
  | some v => rw [e] at h; exact ⟨v, gt_some e, h⟩
theorem mv (i : Nat) {x : Str} {pos : Pos} (hN : X.N[i]? = some x := by rfl) (hv : Vis X.env.scope x := by first | exact Or.inl rfl | exact Or.inr (Or.inl rfl) | exact Or.inr (Or.inr rfl)) (hd : (x == ("__debug__" : Str)) = false := by decide)
    (hcd : (x == ("__classdict__" : Str)) = false := by decide) : PE X (.Name x pos) (mVar i) := (pe_var hN hv hd hcd).imp fun _ _ _ => mVar_imp

/-! ### the places where the heap is asked -/
@[irreducible] def hNewL (xs : List V) (H : Hp) (Q : VK) : Prop := xs.length ≤ sizeLine ∧ ∀ p, H p = none → Q (.ref p) (upd H p (.lst xs))
@[irreducible] def hNewT (xs : List V) (H : Hp) (Q : VK) : Prop := xs.length ≤ sizeLine ∧ ∀ p, H p = none → Q (.ref p) (upd H p (.tup xs))
@[irreducible] def hCat (a b : Addr) (H : Hp) (Q : VK) : Prop := ∃ xs ys, H a = some (.lst xs) ∧ H b = some (.lst ys) ∧ xs.length + ys.length ≤ sizeLine ∧ ∀ p, H p = none → Q (.ref p) (upd H p (.lst (xs ++ ys)))
@[irreducible] def hRep (a : Addr) (k : Int) (H : Hp) (Q : VK) : Prop := ∃ xs, H a = some (.lst xs) ∧ -(2 ^ 63) ≤ k ∧ k < 2 ^ 63 ∧ xs.length * k.toNat ≤ sizeLine ∧ ∀ p, H p = none → Q (.ref p) (upd H p (.lst (List.replicate k.toNat xs).flatten))
@[irreducible] def hIx (K : PySem.W.Frag) (a : Addr) (i : Int) (H : Hp) (Q : VK) : Prop := ∃ xs v, (SqL K H a xs ∨ SqT K H a xs) ∧ atI xs i = some v ∧ Q v H
@[irreducible] def hSl (K : PySem.W.Frag) (a : Addr) (lo hi : Option Int) (H : Hp) (Q : VK) : Prop := ∃ xs, SqL K H a xs ∧ ∀ p, H p = none → Q (.ref p) (upd H p (.lst (cutV xs lo hi)))
@[irreducible] def hSet (a : Addr) (k : Int) (v : V) (H : Hp) (Q : Hp → Prop) : Prop := ∃ xs j, H a = some (.lst xs) ∧ ixN xs.length k = some j ∧ Q (upd H a (.lst (xs.set j v)))
@[irreducible] def hApp (a : Addr) (y : V) (H : Hp) (Q : VK) : Prop := ∃ xs, H a = some (.lst xs) ∧ xs.length < sizeLine ∧ Q .non (upd H a (.lst (xs ++ [y])))
@[irreducible] def hClr (a : Addr) (H : Hp) (Q : VK) : Prop := ∃ xs, H a = some (.lst xs) ∧ Q .non (upd H a (.lst []))
@[irreducible] def hEqL (K : PySem.W.Frag) (a b : Addr) (H : Hp) (Q : Bool → Hp → Prop) : Prop := ∃ ns ms : List Int, SqL K H a (ns.map V.int) ∧ SqL K H b (ms.map V.int) ∧ Q (decide (ns = ms)) H
@[irreducible] def hSum (K : PySem.W.Frag) (a : Addr) (H : Hp) (Q : VK) : Prop := ∃ ns : List Int, SqL K H a (ns.map V.int) ∧ Q (.int ns.sum) H
@[irreducible] def hMax (K : PySem.W.Frag) (a : Addr) (H : Hp) (Q : VK) : Prop := ∃ ns : List Int, SqL K H a (ns.map V.int) ∧ ns ≠ [] ∧ ∀ M, M ∈ ns → (∀ a, a ∈ ns → a ≤ M) → Q (.int M) H
@[irreducible] def hMin (K : PySem.W.Frag) (a : Addr) (H : Hp) (Q : VK) : Prop := ∃ ns : List Int, SqL K H a (ns.map V.int) ∧ ns ≠ [] ∧ ∀ M, M ∈ ns → (∀ a, a ∈ ns → M ≤ a) → Q (.int M) H
@[irreducible] def hSorted (K : PySem.W.Frag) (a : Addr) (H : Hp) (Q : VK) : Prop := ∃ ns : List Int, SqL K H a (ns.map V.int) ∧ ns.length ≤ 1000 ∧ ∀ (l : Addr) (ns' : List Int), H l = none → ns'.Perm ns → Q (.ref l) (upd H l (.lst (ns'.map V.int)))
@[irreducible] def hLen (K : PySem.W.Frag) (a : Addr) (H : Hp) (Q : VK) : Prop := ∃ ys, (SqL K H a ys ∨ SqT K H a ys) ∧ Q (.int ys.length) H
@[irreducible] def hCopy (K : PySem.W.Frag) (a : Addr) (H : Hp) (Q : VK) : Prop := ∃ ys, (SqL K H a ys ∨ SqT K H a ys) ∧ ∀ l, H l = none → Q (.ref l) (upd H l (.lst ys))
@[irreducible] def hRepr (x : V) (H : Hp) (Q : VK) : Prop := ∃ n d, RV n H x d ∧ Shw d ∧ Q (.str d.shown) H
@[irreducible] def hIsi (K : PySem.W.Frag) (x : V) (c : String) (H : Hp) (Q : VK) : Prop := ∃ t, TyOf K H x (.type t) ∧ t ∈ ["NoneType", "bool", "int", "str", "list", "tuple", "dict"] ∧ c ∈ ["bool", "int", "str", "list", "tuple", "dict"] ∧ Q (.bl (isTy t c)) H

/-! ### how these are shown -/
section
variable {H : Hp} {Q : VK} {K : PySem.W.Frag} {a b : Addr}
theorem i_newL {xs : List V} (h : xs.length ≤ sizeLine) (q : ∀ p H', H p = none → Same H H' → H' p = some (.lst xs) → Q (.ref p) H') : hNewL xs H Q := by
  unfold hNewL; exact ⟨h, fun p hp => q p _ hp (same_upd hp) upd_same⟩
theorem i_newT {xs : List V} (h : xs.length ≤ sizeLine) (q : ∀ p H', H p = none → Same H H' → H' p = some (.tup xs) → Q (.ref p) H') : hNewT xs H Q := by
  unfold hNewT; exact ⟨h, fun p hp => q p _ hp (same_upd hp) upd_same⟩
theorem i_cat {xs ys : List V} (h1 : H a = some (.lst xs)) (h2 : H b = some (.lst ys)) (hl : xs.length + ys.length ≤ sizeLine) (q : ∀ p H', H p = none → Same H H' → H' p = some (.lst (xs ++ ys)) → Q (.ref p) H') : hCat a b H Q := by
  unfold hCat; exact ⟨xs, ys, h1, h2, hl, fun p hp => q p _ hp (same_upd hp) upd_same⟩
theorem rep_int (z : Int) (k : Nat) : (List.replicate k [V.int z]).flatten = (List.replicate k z).map V.int := by
  induction k with
  | zero => rfl
  | succ k ih => rw [List.replicate_succ, List.flatten_cons, ih, List.replicate_succ]; rfl
/-- [z] * k -/
theorem i_rep1 {z : Int} {k : Int} (h1 : H a = some (.lst [.int z])) (h0 : -(2 ^ 63) ≤ k) (hl : k ≤ 1000) (q : ∀ p H', H p = none → Same H H' → H' p = some (.lst ((List.replicate k.toNat z).map V.int)) → Q (.ref p) H') : hRep a k H Q := by
  unfold hRep
  refine ⟨_, h1, h0, by omega, ?_, fun p hp => q p _ hp (same_upd hp) ?_⟩
  · rw [sizeLine_eq]; simp only [List.length_cons, List.length_nil]; omega
  · rw [rep_int]; exact upd_same
theorem i_ix {xs : List V} {i : Int} {v : V} (h : SqL K H a xs ∨ SqT K H a xs) (e : atI xs i = some v) (q : Q v H) : hIx K a i H Q := by unfold hIx; exact ⟨xs, v, h, e, q⟩
theorem i_ixN {xs : List V} {i : Int} {v : V} (k : Nat) (h : H a = some (.lst xs)) (hi : i = k) (e : xs[k]? = some v) (q : Q v H) : hIx K a i H Q := by
  subst hi; exact i_ix (.inl (SqL.of h)) (atI_nat e) q
theorem i_ixT {xs : List V} {i : Int} {v : V} (k : Nat) (h : H a = some (.tup xs)) (hi : i = k) (e : xs[k]? = some v) (q : Q v H) : hIx K a i H Q := by
  subst hi; exact i_ix (.inr (SqT.of h)) (atI_nat e) q
theorem i_ixI {ns : List Int} {i : Int} (h : H a = some (.lst (ns.map V.int))) (h0 : 0 ≤ i) (h1 : i < ns.length) (q : Q (.int (ns.getD i.toNat 0)) H) : hIx K a i H Q := by
  have e : i = ((i.toNat : Nat) : Int) := by omega
  refine i_ixN i.toNat h e (v := .int (ns.getD i.toNat 0)) ?_ q
  have hk : i.toNat < ns.length := by omega
  rw [List.getElem?_map, List.getElem?_eq_getElem hk, List.getD_eq_getElem?_getD, List.getElem?_eq_getElem hk]; rfl
theorem i_len {ys : List V} (h : SqL K H a ys ∨ SqT K H a ys) (q : Q (.int ys.length) H) : hLen K a H Q := by unfold hLen; exact ⟨ys, h, q⟩
theorem i_lenI {ns : List Int} (h : H a = some (.lst (ns.map V.int))) (q : Q (.int ns.length) H) : hLen K a H Q := i_len (.inl (SqL.of h)) (by rw [List.length_map]; exact q)
theorem i_lenL {xs : List V} (h : H a = some (.lst xs)) (q : Q (.int xs.length) H) : hLen K a H Q := i_len (.inl (SqL.of h)) q
theorem i_copy {ys : List V} (h : H a = some (.lst ys)) (q : ∀ p H', H p = none → Same H H' → H' p = some (.lst ys) → Q (.ref p) H') : hCopy K a H Q := by
  unfold hCopy; exact ⟨ys, .inl (SqL.of h), fun p hp => q p _ hp (same_upd hp) upd_same⟩
theorem i_sum {ns : List Int} (h : SqL K H a (ns.map V.int)) (q : Q (.int ns.sum) H) : hSum K a H Q := by unfold hSum; exact ⟨ns, h, q⟩
theorem i_max {ns : List Int} (h : SqL K H a (ns.map V.int)) (hn : ns ≠ []) (q : ∀ M, M ∈ ns → (∀ a, a ∈ ns → a ≤ M) → Q (.int M) H) : hMax K a H Q := by unfold hMax; exact ⟨ns, h, hn, q⟩
theorem i_min {ns : List Int} (h : SqL K H a (ns.map V.int)) (hn : ns ≠ []) (q : ∀ M, M ∈ ns → (∀ a, a ∈ ns → M ≤ a) → Q (.int M) H) : hMin K a H Q := by unfold hMin; exact ⟨ns, h, hn, q⟩
theorem i_sorted {ns : List Int} (h : SqL K H a (ns.map V.int)) (hn : ns.length ≤ 1000) (q : ∀ p H' (ns' : List Int), ns'.Perm ns → H p = none → Same H H' → H' p = some (.lst (ns'.map V.int)) → Q (.ref p) H') : hSorted K a H Q := by
  unfold hSorted; exact ⟨ns, h, hn, fun l ns' hl hp => q l _ ns' hp hl (same_upd hl) upd_same⟩
theorem i_eqL {Q : Bool → Hp → Prop} {ns ms : List Int} (h1 : SqL K H a (ns.map V.int)) (h2 : SqL K H b (ms.map V.int)) (q : Q (decide (ns = ms)) H) : hEqL K a b H Q := by unfold hEqL; exact ⟨ns, ms, h1, h2, q⟩
theorem i_app {xs : List V} {y : V} (h : H a = some (.lst xs)) (hl : xs.length < sizeLine) (q : ∀ H', Kp [a] H H' → H' a = some (.lst (xs ++ [y])) → Q .non H') : hApp a y H Q := by
  unfold hApp; exact ⟨xs, h, hl, q _ kp_upd upd_same⟩
theorem i_appI {ns : List Int} {z : Int} (h : H a = some (.lst (ns.map V.int))) (hl : ns.length < 100000) (q : ∀ H', Kp [a] H H' → H' a = some (.lst ((ns ++ [z]).map V.int)) → Q .non H') : hApp a (.int z) H Q :=
  i_app h (by rw [List.length_map, sizeLine_eq]; omega) fun H' k e => q H' k (by rw [e, List.map_append]; rfl)
theorem i_set {Q : Hp → Prop} {xs : List V} {k : Int} {v : V} (j : Nat) (h : H a = some (.lst xs)) (hk : k = j) (hj : j < xs.length) (q : ∀ H', Kp [a] H H' → H' a = some (.lst (xs.set j v)) → Q H') : hSet a k v H Q := by
  unfold hSet
  refine ⟨xs, j, h, ?_, q _ kp_upd upd_same⟩
  subst hk
  unfold ixN
  rw [if_pos (by omega), if_pos (by omega)]
  simp
theorem i_sl {xs : List V} {lo hi : Option Int} (h : SqL K H a xs) (q : ∀ p H', H p = none → Same H H' → H' p = some (.lst (cutV xs lo hi)) → Q (.ref p) H') : hSl K a lo hi H Q := by
  unfold hSl; exact ⟨xs, h, fun p hp => q p _ hp (same_upd hp) upd_same⟩
theorem i_repr {x : V} {d : PyData} (n : Nat) (h : RV n H x d) (hs : Shw d) (q : Q (.str d.shown) H) : hRepr x H Q := by unfold hRepr; exact ⟨n, d, h, hs, q⟩
end

/-! ### operations -/
def vAdd : R2 := fun x y H Q => match x, y with
  | .int i, .int j => Q (.int (i + j)) H
  | .ref a, .ref b => hCat a b H Q
  | .str i, .str j => i.length + j.length ≤ sizeLine ∧ Q (.str (i ++ j)) H
  | _, _ => False
theorem opAdd : OpR X (binaryOp .Add) vAdd := by
  intro pins s σ H x y v u Q I rx ry h
  cases x <;> cases y <;> first
    | exact (show False from h).elim
    | exact op_add pins s σ H _ _ v u Q I rx ry ⟨_, _, rfl, rfl, h⟩
    | (obtain ⟨h1, h2⟩ := (show _ ∧ _ from h); exact op_add_str pins s σ H _ _ v u Q I rx ry ⟨_, _, rfl, rfl, h1, h2⟩)
    | (have h := (show hCat _ _ H Q from h); unfold hCat at h; obtain ⟨xs, ys, h1, h2, h3, h4⟩ := h; exact op_cat pins s σ H _ _ v u Q I rx ry ⟨_, _, xs, ys, rfl, rfl, h1, h2, h3, h4⟩)
def vSub : R2 := fun x y H Q => match x, y with
  | .int i, .int j => Q (.int (i - j)) H
  | _, _ => False
theorem opSub : OpR X (binaryOp .Sub) vSub := by
  intro pins s σ H x y v u Q I rx ry h
  cases x <;> cases y <;> first
    | exact (show False from h).elim
    | exact op_sub pins s σ H _ _ v u Q I rx ry ⟨_, _, rfl, rfl, h⟩
def vMul : R2 := fun x y H Q => match x, y with
  | .int i, .int j => CMul i j ∧ Q (.int (i * j)) H
  | .ref a, .int k => hRep a k H Q
  | _, _ => False
theorem opMul : OpR X (binaryOp .Mult) vMul := by
  intro pins s σ H x y v u Q I rx ry h
  cases x <;> cases y <;> first
    | exact (show False from h).elim
    | (obtain ⟨h1, h2⟩ := (show CMul _ _ ∧ _ from h); exact op_mul pins s σ H _ _ v u Q I rx ry ⟨_, _, rfl, rfl, h1, h2⟩)
    | (have h := (show hRep _ _ H Q from h); unfold hRep at h; obtain ⟨xs, h1, h2, h3, h4, h5⟩ := h; exact op_rep pins s σ H _ _ v u Q I rx ry ⟨_, _, xs, rfl, rfl, h1, h2, h3, h4, h5⟩)
def vMod : R2 := fun x y H Q => match x, y with
  | .int i, .int j => 0 < j ∧ Q (.int (i % j)) H
  | _, _ => False
theorem opMod : OpR X (binaryOp .Mod) vMod := by
  intro pins s σ H x y v u Q I rx ry h
  cases x <;> cases y <;> first
    | exact (show False from h).elim
    | (obtain ⟨h1, h2⟩ := (show (0 : Int) < _ ∧ _ from h); exact op_mod pins s σ H _ _ v u Q I rx ry ⟨_, _, rfl, rfl, h1, h2⟩)
def vFdiv : R2 := fun x y H Q => match x, y with
  | .int i, .int j => (0 < j ∧ j < 2 ^ 200) ∧ Q (.int (i / j)) H
  | _, _ => False
theorem opFdiv : OpR X (binaryOp .FloorDiv) vFdiv := by
  intro pins s σ H x y v u Q I rx ry h
  cases x <;> cases y <;> first
    | exact (show False from h).elim
    | (obtain ⟨h1, h2⟩ := (show ((0 : Int) < _ ∧ _) ∧ _ from h); exact op_fdivL pins s σ H _ _ v u Q I rx ry ⟨_, _, rfl, rfl, h1, h2⟩)
def vPow : R2 := fun x y H Q => match x, y with
  | .int i, .int j => CPow i j ∧ Q (.int (i ^ j.toNat)) H
  | _, _ => False
theorem opPow : OpR X (binaryOp .Pow) vPow := by
  intro pins s σ H x y v u Q I rx ry h
  cases x <;> cases y <;> first
    | exact (show False from h).elim
    | (obtain ⟨h1, h2⟩ := (show CPow _ _ ∧ _ from h); exact op_pow pins s σ H _ _ v u Q I rx ry ⟨_, _, rfl, rfl, h1, h2⟩)
def vLt (p : Int → Int → Bool) : R2 := fun x y H Q => match x, y with
  | .int i, .int j => Q (.bl (p i j)) H
  | _, _ => False
theorem opCmp {op : CmpOp} {p : Int → Int → Bool} (h0 : OpR X (compareOp op) (rI0 fun i j => .bl (p i j))) : OpR X (compareOp op) (vLt p) := by
  intro pins s σ H x y v u Q I rx ry h
  cases x <;> cases y <;> first
    | exact (show False from h).elim
    | exact h0 pins s σ H _ _ v u Q I rx ry ⟨_, _, rfl, rfl, h⟩
theorem opLt : OpR X (compareOp .Lt) (vLt fun i j => decide (i < j)) := opCmp op_lt
theorem opLe : OpR X (compareOp .LtE) (vLt fun i j => decide (i ≤ j)) := opCmp op_le
theorem opGt : OpR X (compareOp .Gt) (vLt fun i j => decide (j < i)) := opCmp op_gt
theorem opGe : OpR X (compareOp .GtE) (vLt fun i j => decide (j ≤ i)) := opCmp op_ge
theorem dI {i j : Int} : decide (V.int i = V.int j) = decide (i = j) := by simp
theorem dS {i j : Str} : decide (V.str i = V.str j) = decide (i = j) := by simp
theorem dB {i j : Bool} : decide (V.bl i = V.bl j) = decide (i = j) := by simp
def vIsN (n : Bool → Bool) : R2 := fun x y H Q => match y with
  | .non => match x with
    | .non => Q (.bl (n true)) H
    | .int _ => Q (.bl (n false)) H
    | .ref _ => Q (.bl (n false)) H
    | .bl _ => Q (.bl (n false)) H
    | .str _ => Q (.bl (n false)) H
    | _ => False
  | _ => False
theorem opIs : OpR X (compareOp .Is) (vIsN id) := by
  intro pins s σ H x y v u Q I rx ry h
  cases y <;> first
    | exact (show False from h).elim
    | (cases x <;> first
      | exact (show False from h).elim
      | exact op_isN pins s σ H _ _ v u Q I rx ry ⟨rfl, h⟩)
def vNeg : V → Hp → VK → Prop := fun x H Q => match x with
  | .int i => Q (.int (-i)) H
  | _ => False
theorem unNeg : UnR X (unaryOp .USub) vNeg := by
  intro pins s σ H x v Q I rx h
  cases x <;> first
    | exact (show False from h).elim
    | exact un_neg pins s σ H _ v Q I rx ⟨_, rfl, h⟩
def vIx (K : PySem.W.Frag) : R2 := fun x y H Q => match x, y with
  | .ref a, .int i => hIx K a i H Q
  | _, _ => False
theorem ixM : IxR X (vIx X.K) := by
  intro value slice pins s σ H x y v u Q I rx ry h
  cases x <;> cases y <;> first
    | exact (show False from h).elim
    | (have h := (show hIx _ _ _ H Q from h)
       unfold hIx at h
       obtain ⟨xs, w, h1 | h1, h2, h3⟩ := h
       · exact ix_list value slice pins s σ H _ _ v u Q I rx ry ⟨_, xs, _, w, rfl, rfl, h1, h2, h3⟩
       · exact ix_tup value slice pins s σ H _ _ v u Q I rx ry ⟨_, xs, _, w, rfl, rfl, h1, h2, h3⟩)
def vSl (K : PySem.W.Frag) : V → Option Int → Option Int → Hp → VK → Prop := fun x lo hi H Q => match x with
  | .ref a => hSl K a lo hi H Q
  | _ => False
theorem slM : SlR X (vSl X.K) := by
  intro pins s σ H x v vl vu lo hi sl Q I rx hs pl pu h
  cases x <;> first
    | exact (show False from h).elim
    | (have h := (show hSl _ _ _ _ H Q from h)
       unfold hSl at h
       obtain ⟨xs, h1, h2⟩ := h
       exact sl_list pins s σ H _ v vl vu lo hi sl Q I rx hs pl pu ⟨_, xs, rfl, h1, h2⟩)
def mPart (t : TE) : TO := fun σ H Q => t σ H fun x H1 => match x with
  | .int i => Q (some i) H1
  | _ => False
theorem po_m {e : Expr} {te : TE} (h : PE X e te) : PO X (some e) (mPart te) := by
  intro pins s σ H Q I hw
  rw [evalPart_some]
  refine thn (h pins s σ H _ I hw) fun u s1 ⟨x, H1, I1, r1, q1⟩ => ?_
  cases x <;> first
    | exact (show False from q1).elim
    | (obtain ⟨t, rfl⟩ := r1; exact ⟨some _, H1, I1, .int _ t, q1⟩)

/-! ### truth -/
@[irreducible] def hTru (K : PySem.W.Frag) (a : Addr) (H : Hp) (Q : Bool → Hp → Prop) : Prop := ∃ xs, (SqL K H a xs ∨ SqT K H a xs) ∧ Q (!xs.isEmpty) H
def vTru (K : PySem.W.Frag) (x : V) (H : Hp) (Q : Bool → Hp → Prop) : Prop := match x with
  | .bl b => Q b H
  | .int i => Q (i != 0) H
  | .non => Q false H
  | .ref a => hTru K a H Q
  | _ => False
theorem vTru_imp {K : PySem.W.Frag} {x : V} {H : Hp} {Q : Bool → Hp → Prop} (h : vTru K x H Q) : ∃ k, TruV K x H k ∧ Q k H := by
  cases x <;> first
    | exact (show False from h).elim
    | exact ⟨_, rfl, h⟩
    | (have h := (show hTru _ _ H Q from h)
       unfold hTru at h
       obtain ⟨xs, h1 | h1, h2⟩ := h
       · exact ⟨_, .inl ⟨xs, h1, rfl⟩, h2⟩
       · exact ⟨_, .inr (.inl ⟨xs, h1, rfl⟩), h2⟩)
theorem tru_m {pins : List (Addr × Obj)} {s : Shared} {σ : St} {H : Hp} {x : V} {v : Value} {Q : Bool → Hp → Prop} (I : Inv X pins σ H s) (r : RelV x v) (h : vTru X.K x H Q) : wpAny (model X.prog X.w) X.A (truthy v) (TP X pins σ Q) X.xe s :=
  tru_ok pins s σ H x v Q I r (vTru_imp h)
/-- a value as a test -/
def mT (K : PySem.W.Frag) (t : TE) : TT := fun σ H Q => t σ H fun x H' => vTru K x H' Q
theorem pt_m {a : Expr} {ta : TE} (ha : PE X a ta) (he : ∀ whole, isTrue a X.env whole = (do let v ← whole; standAt a.pos; holding [v] (truthy v)) := by intro _; rfl) : PT X a (mT X.K ta) := by
  intro pins s σ H Q I h
  exact isTrue_plain (thn (ha pins s σ H _ I h) fun v s1 ⟨x, H1, I1, r1, q1⟩ => tru_m I1 r1 q1) (he _)
def mB (t : TE) : TT := fun σ H Q => t σ H fun x H' => match x with
  | .bl k => Q k H'
  | _ => False
section
variable {a b c : Expr} {ta tb tc : TE} {pos : Pos} {tA tB' : TT} {rest : List Expr}
theorem pt_cm {op : CmpOp} {r : R2} (ho : OpR X (compareOp op) r) (ha : PE X a ta) (hb : PE X b tb) (hm : behindInMarks op b = false) : PT X (.Compare a [op] [b] pos) (mB (tOp r ta tb)) := by
  intro pins s σ H Q I h
  refine wpAny_isTrue_Compare1 (thn (ha pins s σ H _ I h) fun v s1 ⟨x, H1, I1, r1, q1⟩ => thn (hb pins s1 σ H1 _ I1 q1) fun u s2 ⟨y, H2, I2, r2, q2⟩ =>
    thn (ho pins s2 σ H2 x y v u _ I2 r1 r2 q2) fun c s3 ⟨z, H3, I3, r3, q3⟩ => ?_) hm
  cases z <;> first
    | exact (show False from q3).elim
    | (cases r3; exact wpAny_truthy_bool ⟨H3, I3, q3⟩)
def mChain (r r' : R2) (ta tb tc : TE) : TE := fun σ H Q => ta σ H fun x H1 => tb σ H1 fun y H2 => r x y H2 fun z H3 => match z with
  | .bl k => (k = true → tc σ H3 fun w' H4 => r' y w' H4 Q) ∧ (k = false → Q (.bl false) H3)
  | _ => False
theorem pe_chm {op op' : CmpOp} {r r' : R2} (ho : OpR X (compareOp op) r) (ho' : OpR X (compareOp op') r') (ha : PE X a ta) (hb : PE X b tb) (hc : PE X c tc)
    (hm : lastMarks [op, op'] [b, c] = false := by with_unfolding_all rfl) : PE X (.Compare a [op, op'] [b, c] pos) (mChain r r' ta tb tc) := by
  intro pins s σ H Q I h
  refine Compare_chain (thn (ha pins s σ H _ I h) fun v s1 ⟨x, H1, I1, r1, q1⟩ => chain_link (thn (hb pins s1 σ H1 _ I1 q1) fun u s2 ⟨y, H2, I2, r2, q2⟩ =>
    thn (ho pins s2 σ H2 x y v u _ I2 r1 r2 q2) fun d s3 ⟨z, H3, I3, r3, q3⟩ => ?_)) hm
  cases z <;> first
    | exact (show False from q3).elim
    | skip
  rename_i k
  cases r3
  refine wpAny_truthy_bool ?_
  cases k with
  | false => exact ite_ff ⟨.bl false, H3, I3, rfl, q3.2 rfl⟩
  | true => exact ite_tt (chain_last (thn (hc pins s3 σ H3 _ I3 (q3.1 rfl)) fun w' s4 ⟨z', H4, I4, r4, q4⟩ => ho' pins s4 σ H4 y z' u w' Q I4 r2 r4 q4))
def mAnd (t u : TT) : TT := fun σ H Q => t σ H fun c H1 => (c = true → u σ H1 Q) ∧ (c = false → Q false H1)
def mOr (t u : TT) : TT := fun σ H Q => t σ H fun c H1 => (c = true → Q true H1) ∧ (c = false → u σ H1 Q)
theorem pw_am (ha : PT X a tA) (hb : PW X (.BoolOp .And (b :: rest) pos) tB') : PW X (.BoolOp .And (a :: b :: rest) pos) (mAnd tA tB') := by
  intro wh pins s σ H Q I h
  refine isTrue_and (thn (ha pins s σ H _ I h) fun c s1 ⟨H1, I1, q1⟩ => ?_)
  cases c with
  | true => exact hb wh pins s1 σ H1 Q I1 (q1.1 rfl)
  | false => exact ⟨H1, I1, q1.2 rfl⟩
theorem pw_om (ha : PT X a tA) (hb : PW X (.BoolOp .Or (b :: rest) pos) tB') : PW X (.BoolOp .Or (a :: b :: rest) pos) (mOr tA tB') := by
  intro wh pins s σ H Q I h
  refine isTrue_or (thn (ha pins s σ H _ I h) fun c s1 ⟨H1, I1, q1⟩ => ?_)
  cases c with
  | true => exact ⟨H1, I1, q1.1 rfl⟩
  | false => exact hb wh pins s1 σ H1 Q I1 (q1.2 rfl)
def mAndV (K : PySem.W.Frag) (ta tb : TE) : TE := fun σ H Q => ta σ H fun x H1 => vTru K x H1 fun c H2 => (c = true → tb σ H2 Q) ∧ (c = false → Q x H2)
def mNotV (K : PySem.W.Frag) (ta : TE) : TE := fun σ H Q => ta σ H fun x H1 => vTru K x H1 fun c H2 => Q (.bl (!c)) H2
theorem pe_am (ha : PE X a ta) (hb : PE X (.BoolOp .And (b :: rest) pos) tb) : PE X (.BoolOp .And (a :: b :: rest) pos) (mAndV X.K ta tb) := by
  intro pins s σ H Q I h
  refine BoolOp_and (thn (ha pins s σ H _ I h) fun v s1 ⟨x, H1, I1, r1, q1⟩ => ?_)
  refine thn (tru_m I1 r1 q1) fun c s2 ⟨H2, I2, q2⟩ => ?_
  cases c with
  | true => exact hb pins s2 σ H2 Q I2 (q2.1 rfl)
  | false => exact ⟨x, H2, I2, r1, q2.2 rfl⟩
theorem pe_nm (ha : PE X a ta) : PE X (.UnaryOp .Not a pos) (mNotV X.K ta) := by
  intro pins s σ H Q I h
  refine UnaryOp_ (thn (ha pins s σ H _ I h) fun v s1 ⟨x, H1, I1, r1, q1⟩ => ?_)
  exact not_of (thn (tru_m I1 r1 q1) fun c s2 ⟨H2, I2, q2⟩ => ⟨.bl (!c), H2, I2, rfl, q2⟩)
end

/-! ### statements -/
section
variable {st : Stmt} {rest : List Stmt} {t u : TS} {e : Expr} {te : TE} {pos : Pos}
def mIfS (c : TT) (t u : TS) : TS := fun D σ H => c σ H fun b H1 => (b = true → t D σ H1) ∧ (b = false → u D σ H1)
theorem ps_ifm {c : Expr} {a b : List Stmt} {tc : TT} (hc : PT X c tc) (ha : PSs X a t) (hb : PSs X b u) : PS X (.If c a b pos) (mIfS tc t u) := by
  intro pins s σ H D I h
  refine wpAny_If (thn (hc pins s σ H _ I h) fun d s1 ⟨H1, I1, q1⟩ => ?_)
  cases d with
  | true => exact ha pins s1 σ H1 D I1 (q1.1 rfl)
  | false => exact hb pins s1 σ H1 D I1 (q1.2 rfl)
/-- a block with a stop behind its first statement -/
def mMid (t u : TS) : TS := fun D σ H => ∃ M : St → Hp → Prop, t { D with nx := M } σ H ∧ ∀ σ' H', M σ' H' → u D σ' H'
theorem pss_mid (h1 : PS X st t) (h2 : PSs X rest u) : PSs X (st :: rest) (mMid t u) := by
  intro pins s σ H D I h
  obtain ⟨M, h, hM⟩ := h
  refine wpAny_execs_cons (thn (h1 pins s σ H { D with nx := M } I h) fun f s1 q => ?_)
  cases f with
  | next =>
    obtain ⟨σ', H', I', q⟩ := q
    exact h2 pins s1 σ' H' D I' (hM _ _ q)
  | ret v => exact q
  | brk => exact q
  | cont => exact q
def mWhile (c : TT) (tb : TS) : TS := fun D σ H => ∃ W : Nat → St → Hp → Prop, (∃ m, W m σ H) ∧ ∀ m σ H, W m σ H →
  c σ H fun b H1 => (b = true → tb { D with nx := fun σ' H' => ∃ m', m' < m ∧ W m' σ' H', ct := fun σ' H' => ∃ m', m' < m ∧ W m' σ' H', bk := D.nx } σ H1) ∧ (b = false → D.nx σ H1)
theorem ps_whm {c : Expr} {body : List Stmt} {tc : TT} {tb : TS} (hp : PassesOwn (model X.prog X.w) X.A X.env X.xe) (hc : PT X c tc) (hb : PSs X body tb) : PS X (.While c body [] pos) (mWhile tc tb) := by
  intro pins s σ H D I h
  obtain ⟨W, ⟨m0, w0⟩, turn⟩ := h
  refine wpAny_While (codeAny_whileLoop (fun n s' => ∃ σ' H', Inv X pins σ' H' s' ∧ W n σ' H') ?_ m0 ⟨σ, H, I, w0⟩)
  rintro n s1 ⟨σ1, H1, I1, w1⟩
  refine wpAny_passesOwn hp (thn (hc pins s1 σ1 H1 _ I1 (turn n σ1 H1 w1)) fun b s2 ⟨H2, I2, q2⟩ => ?_)
  cases b with
  | true =>
    rw [if_pos rfl]
    refine wpAny_passesOwn hp (thn (hb pins s2 σ1 H2 _ I2 (q2.1 rfl)) fun f s3 q3 => ?_)
    cases f with
    | next =>
      obtain ⟨σ3, H3, I3, m', hm, w3⟩ := q3
      exact ⟨m', hm, σ3, H3, I3, w3⟩
    | cont =>
      obtain ⟨σ3, H3, I3, m', hm, w3⟩ := q3
      exact ⟨m', hm, σ3, H3, I3, w3⟩
    | brk => exact q3
    | ret v => exact q3
  | false =>
    rw [if_neg Bool.false_ne_true]
    exact wpAny_execs_nil ⟨σ1, H2, I2, q2.2 rfl⟩
/-- a while by its invariant: W, with a measure -/
theorem while_m {c : TT} {tb : TS} {D : Ends} {σ : St} {H : Hp} (W : Nat → St → Hp → Prop) (m : Nat) (h0 : W m σ H)
    (hs : ∀ m σ H, W m σ H → c σ H fun b H1 => (b = true → tb { D with nx := fun σ' H' => ∃ m', m' < m ∧ W m' σ' H', ct := fun σ' H' => ∃ m', m' < m ∧ W m' σ' H', bk := D.nx } σ H1) ∧ (b = false → D.nx σ H1)) : mWhile c tb D σ H := ⟨W, ⟨m, h0⟩, hs⟩
def mAug (i : Nat) (te : TE) (ti : TIp) : TS := fun D σ H => match gt σ i with
  | some x => te σ H fun y H1 => ti x y H1 fun z H2 => D.nx (σ.set i (some z)) H2
  | none => False
theorem ps_augm {i : Nat} {x : Str} {e : Expr} {te : TE} {op : Operator} {ti : TIp} {pos' : Pos} (hN : X.N.Nodup) (hi : X.N[i]? = some x) (hx : Loc X.env.scope x) (he : PE X e te) (ho : PIp X op ti) (hf : X.fn x = true ∨ X.env.scope.names.lookup x = some .local := by first | exact .inl rfl | exact .inr rfl | assumption) :
    PS X (.AugAssign (.Name x pos') op e pos) (mAug i te ti) := (ps_aug hN hi hx he ho hf).imp fun D σ H h => by
  unfold mAug at h
  cases e : gt σ i with
  | none => rw [e] at h; exact h.elim
  | some v => rw [e] at h; exact ⟨v, gt_some e, h⟩
def vIpI (f : Int → Int → Int) : TIp := fun x y H Q => match x, y with
  | .int i, .int j => Q (.int (f i j)) H
  | _, _ => False
theorem ipAdd : PIp X .Add (vIpI fun i j => i + j) := by
  intro pins s σ H x y v u Q I r1 r2 h
  cases x <;> cases y <;> first
    | exact (show False from h).elim
    | exact ip_add pins s σ H _ _ v u Q I r1 r2 ⟨_, _, rfl, rfl, h⟩
def vSet : TSet := fun o i v H Q => match o, i with
  | .ref a, .int k => hSet a k v H Q
  | _, _ => False
theorem setM : PSet X vSet := by
  intro pins s σ H o i v ov iv u Q I ro ri rv h
  cases o <;> cases i <;> first
    | exact (show False from h).elim
    | (have h := (show hSet _ _ _ H Q from h); unfold hSet at h; obtain ⟨xs, j, h1, h2, h3⟩ := h; exact set_list pins s σ H _ _ v ov iv u Q I ro ri rv ⟨_, xs, _, j, rfl, rfl, h1, h2, h3⟩)
end

/-! ### displays, methods, builtins -/
def mLst (t : TA) : TE := fun σ H Q => t σ H fun xs H1 => hNewL xs H1 Q
def mTup (t : TA) : TE := fun σ H Q => t σ H fun xs H1 => hNewT xs H1 Q
theorem pe_lm {es : List Expr} {t : TA} {pos : Pos} (h : PA X es t) : PE X (.List es pos) (mLst t) := by
  intro pins s σ H Q I w
  refine pe_lst (t := fun σ H Q => t σ H Q) h pins s σ H Q I ?_
  have w' : t σ H fun xs H1 => hNewL xs H1 Q := w
  unfold hNewL at w'
  exact w'
theorem pe_tm {x1 : Nat} {es : List Expr} {t : TA} {pos : Pos} (h : PA X es t) : PE X (.Tuple es x1 pos) (mTup t) := by
  intro pins s σ H Q I w
  refine pe_tup (t := fun σ H Q => t σ H Q) h pins s σ H Q I ?_
  have w' : t σ H fun xs H1 => hNewT xs H1 Q := w
  unfold hNewT at w'
  exact w'
def vApp : V → List V → Hp → VK → Prop := fun x vs H Q => match x, vs with
  | .ref a, [y] => hApp a y H Q
  | _, _ => False
theorem mtApp : MtM X "list.append" vApp := by
  intro pins s σ H x vs v us Q I rx rv h
  unfold vApp at h
  split at h
  · unfold hApp at h; obtain ⟨xs, h1, h2, h3⟩ := h; exact mt_append pins s σ H _ _ v us Q I rx rv ⟨_, xs, _, rfl, rfl, h1, h2, h3⟩
  · exact h.elim
theorem i_tyL {K : PySem.W.Frag} {H : Hp} {a : Addr} {xs : List V} (h : H a = some (.lst xs)) : tyV K "list" (.ref a) H := .inl ⟨rfl, _, SqL.of h⟩
def vSum (K : PySem.W.Frag) : List V → Hp → VK → Prop := fun xs H Q => match xs with
  | [.ref a] => hSum K a H Q
  | _ => False
theorem callSum (hc : X.calm = true) : CallR X (.builtin "sum") (vSum X.K) := (call_sum hc).imp fun xs H Q h => by
  unfold vSum at h; split at h
  · unfold hSum at h; obtain ⟨ns, h1, h2⟩ := h; exact ⟨_, ns, rfl, h1, h2⟩
  · exact h.elim
def vMax (K : PySem.W.Frag) : List V → Hp → VK → Prop := fun xs H Q => match xs with
  | [.ref a] => hMax K a H Q
  | [.int i, .int j] => Q (.int (max i j)) H
  | _ => False
theorem callMax (hc : X.calm = true) : CallR X (.builtin "max") (vMax X.K) := ((call_max hc).or (call_max2 hc)).imp fun xs H Q h => by
  unfold vMax at h; split at h
  · unfold hMax at h; obtain ⟨ns, h1, h2⟩ := h; exact .inl ⟨_, ns, rfl, h1, h2⟩
  · refine .inr ⟨_, _, rfl, ?_⟩
    rename_i i j
    have e : (if j > i then j else i) = max i j := by split <;> omega
    rw [e]; exact h
  · exact h.elim
def vMin (K : PySem.W.Frag) : List V → Hp → VK → Prop := fun xs H Q => match xs with
  | [.ref a] => hMin K a H Q
  | [.int i, .int j] => Q (.int (min i j)) H
  | _ => False
theorem callMin (hc : X.calm = true) : CallR X (.builtin "min") (vMin X.K) := ((call_min hc).or (call_min2 hc)).imp fun xs H Q h => by
  unfold vMin at h; split at h
  · unfold hMin at h; obtain ⟨ns, h1, h2⟩ := h; exact .inl ⟨_, ns, rfl, h1, h2⟩
  · refine .inr ⟨_, _, rfl, ?_⟩
    rename_i i j
    have e : (if j < i then j else i) = min i j := by split <;> omega
    rw [e]; exact h
  · exact h.elim
def vLen (K : PySem.W.Frag) : List V → Hp → VK → Prop := fun xs H Q => match xs with
  | [.ref a] => hLen K a H Q
  | _ => False
theorem callLen : CallR X (.builtin "len") (vLen X.K) := call_len_seq.imp fun xs H Q h => by
  unfold vLen at h; split at h
  · unfold hLen at h; obtain ⟨ys, h1, h2⟩ := h; exact ⟨_, ys, rfl, h1, h2⟩
  · exact h.elim
def vCopy (K : PySem.W.Frag) : List V → Hp → VK → Prop := fun xs H Q => match xs with
  | [.ref a] => hCopy K a H Q
  | _ => False
theorem callList : CallR X (.type "list") (vCopy X.K) := call_list_of.imp fun xs H Q h => by
  unfold vCopy at h; split at h
  · unfold hCopy at h; obtain ⟨ys, h1, h2⟩ := h; exact ⟨_, ys, rfl, h1, h2⟩
  · exact h.elim
def vSorted (K : PySem.W.Frag) : List V → Hp → VK → Prop := fun xs H Q => match xs with
  | [.ref a] => hSorted K a H Q
  | _ => False
theorem callSorted : CallR X (.builtin "sorted") (vSorted X.K) := call_sorted.imp fun xs H Q h => by
  unfold vSorted at h; split at h
  · unfold hSorted at h; obtain ⟨ys, h1, h2⟩ := h; exact ⟨_, ys, rfl, h1, h2⟩
  · exact h.elim
def vInt : List V → Hp → VK → Prop := fun xs H Q => match xs with
  | [.int i] => Q (.int i) H
  | [.bl k] => Q (.int (if k then 1 else 0)) H
  | _ => False
theorem callInt : CallR X (.type "int") vInt := call_int1.imp fun xs H Q h => by
  unfold vInt at h; split at h
  · exact .inl ⟨_, rfl, h⟩
  · exact .inr ⟨_, rfl, h⟩
  · exact h.elim
def vRepr : List V → Hp → VK → Prop := fun xs H Q => match xs with
  | [x] => hRepr x H Q
  | _ => False
theorem callRepr {k : Nat} (hr : Room k X.A) : CallR X (.builtin "repr") vRepr := (call_repr hr).imp fun xs H Q h => by
  unfold vRepr at h; split at h
  · unfold hRepr at h; obtain ⟨n, d, h1, h2⟩ := h; exact ⟨_, n, d, rfl, h1, h2⟩
  · exact h.elim
def vIsi (K : PySem.W.Frag) : List V → Hp → VK → Prop := fun xs H Q => match xs with
  | [x, .ty c] => hIsi K x c H Q
  | _ => False
theorem callIsi : CallR X (.builtin "isinstance") (vIsi X.K) := call_isinstance.imp fun xs H Q h => by
  unfold vIsi at h; split at h
  · unfold hIsi at h; obtain ⟨t, h1, h2⟩ := h; exact ⟨_, t, _, rfl, h1, h2⟩
  · exact h.elim
end

/-! ### what loops walk -/
section
variable {X : Cx} {tg : Expr}
def mItL (K : PySem.W.Frag) (tl : TE) : TI := fun σ H R => tl σ H fun x H1 => match x with
  | .ref a => (∃ xs, SqL K H1 a xs) ∧ R (Itl K a) H1
  | _ => False
theorem pi_lm {l : Expr} {tl : TE} (hl : PE X l tl) : PI X tg l (mItL X.K tl) := by
  intro pins s σ H R I h
  refine thn (hl pins s σ H _ I h) fun v s1 ⟨x, H1, I1, r1, q1⟩ => ?_
  cases x <;> first
    | exact (show False from q1).elim
    | skip
  rename_i a
  obtain ⟨⟨xs, hq⟩, q⟩ := (show (∃ xs, SqL X.K H1 a xs) ∧ R (Itl X.K a) H1 from q1)
  cases r1
  obtain ⟨its, rv, p, hz⟩ := I1.list hq
  refine wpAny_pyIter_list p.isList ?_
  refine ⟨s1.heap.objs.size, [s1.heap.objs.size], _, _, H1, rfl, I1.kept (t' := s1.toks) fun b o e => Heap.get?_push_of_some _ e, turn_list a _, ⟨_, Heap.get?_push_size _ rfl, rfl, rfl⟩, fun b hb => ?_, q⟩
  have e : b = s1.heap.objs.size := by simpa using hb
  subst e
  exact I1.fpOk (Nat.le_refl _) (I1.hok.fresh (Nat.le_refl _))
def upA (t : TA) : TA := fun σ H Q => ∃ P : List V → Hp → Prop, t σ H P ∧ ∀ vs H1, P vs H1 → Q vs H1
theorem PA.up {es : List Expr} {t : TA} (h : PA X es t) : PA X es (upA t) := by
  intro pos pins s σ H Q I w
  obtain ⟨P, w, hP⟩ := w
  exact thn (h pos pins s σ H P I w) fun us s1 ⟨vs, H1, I1, r1, q1⟩ => ⟨vs, H1, I1, r1, hP _ _ q1⟩
def mRng1 (ta : TA) : TI := fun σ H R => ta σ H fun vs H1 => match vs with
  | [.int j] => (-(2 ^ 62) ≤ j ∧ j < 2 ^ 62) ∧ R (Itr 0 j.toNat) H1
  | _ => False
def mRngD (ta : TA) : TI := fun σ H R => ta σ H fun vs H1 => match vs with
  | [.int i, .int j, .int k] => k = -1 ∧ (-(2 ^ 61) ≤ i ∧ i < 2 ^ 61 ∧ -(2 ^ 61) ≤ j ∧ j < 2 ^ 61) ∧ R (Itd i (i - j).toNat) H1
  | _ => False
theorem pi_r1 {a : Expr} {ta : TA} {p pos : Pos} (hg : Gl X "range") (hm : X.mg "range" = none) (ha : PA X [a] ta) (hs : starEach [a] X.env = [(false, eval a X.env)] := by rfl) : PI X tg (.Call (.Name "range" p) [a] [] pos) (mRng1 ta) :=
  (pi_range1 hg hm ha.up hs).imp fun σ H R h => ⟨_, h, fun vs H1 q => by
    split at q
    · exact ⟨_, rfl, q.1.1, q.1.2, q.2⟩
    · exact q.elim⟩
theorem pi_rd {a b c : Expr} {ta : TA} {p pos : Pos} (hg : Gl X "range") (hm : X.mg "range" = none) (ha : PA X [a, b, c] ta) (hs : starEach [a, b, c] X.env = [(false, eval a X.env), (false, eval b X.env), (false, eval c X.env)] := by rfl) (hs2 : starEach [b, c] X.env = [(false, eval b X.env), (false, eval c X.env)] := by rfl) :
    PI X tg (.Call (.Name "range" p) [a, b, c] [] pos) (mRngD ta) := (pi_down hg hm ha.up hs hs2).imp fun σ H R h => ⟨_, h, fun vs H1 q => by
    split at q
    · obtain ⟨rfl, q1, q2⟩ := q; exact ⟨_, _, rfl, q1, q2⟩
    · exact q.elim⟩
@[irreducible] def hUnp (K : PySem.W.Frag) (a : Addr) (n : Nat) (H : Hp) (Q : List V → Prop) : Prop := ∃ xs, SqT K H a xs ∧ xs.length = n ∧ Q xs
theorem i_unp {K : PySem.W.Frag} {a : Addr} {n : Nat} {H : Hp} {Q : List V → Prop} {xs : List V} (h : H a = some (.tup xs)) (hl : xs.length = n) (q : Q xs) : hUnp K a n H Q := by unfold hUnp; exact ⟨xs, SqT.of h, hl, q⟩
def gTm (K : PySem.W.Frag) (n : Nat) (t : TGs) : TG := fun v σ H Q => match v with
  | .ref a => hUnp K a n H fun xs => t xs σ H Q
  | _ => False
theorem pg_tm {es : List Expr} {k : Nat} {t : TGs} {n : Nat} {pos : Pos} (hc : X.calm = true) (h : PGs X es t)
    (hn : (assignEach es X.env).length = n := by rfl) (hst : (assignEach es X.env).findIdx? (·.1) = none := by rfl) : PG X (.Tuple es k pos) (gTm X.K n t) := by
  intro pins s σ H v u Q I r hw
  cases v <;> first
    | exact (show False from hw).elim
    | skip
  rename_i a
  have hw := (show hUnp X.K a n H _ from hw)
  unfold hUnp at hw
  obtain ⟨xs, h1, h2, h3⟩ := hw
  exact pg_tup hc h hn hst pins s σ H _ u Q I r ⟨a, xs, rfl, h1, h2, h3⟩
def gNm : TGs := fun vs σ H Q => match vs with
  | [] => Q σ H
  | _ => False
def gCm (t : TG) (u : TGs) : TGs := fun vs σ H Q => match vs with
  | v :: r => t v σ H fun σ' H' => u r σ' H' Q
  | [] => False
theorem pgs_nm : PGs X [] gNm := by
  intro pins s σ H vs us Q I r h
  cases vs with
  | nil => exact pgs_nil pins s σ H _ us Q I r ⟨rfl, h⟩
  | cons v vs => exact (show False from h).elim
theorem pgs_cm {e : Expr} {es : List Expr} {t : TG} {u : TGs} (h1 : PG X e t) (h2 : PGs X es u)
    (hs : (assignEach (e :: es) X.env).map (·.2) = assign e X.env :: (assignEach es X.env).map (·.2) := by rfl) : PGs X (e :: es) (gCm t u) := by
  intro pins s σ H vs us Q I r h
  cases vs with
  | nil => exact (show False from h).elim
  | cons v vs => exact pgs_cons h1 h2 hs pins s σ H _ us Q I r ⟨v, vs, rfl, h⟩
end

/-! ### tests in readings -/
theorem dec2 {p A B : Prop} [Decidable p] (h1 : p → A) (h2 : ¬ p → B) : (decide p = true → A) ∧ (decide p = false → B) := ⟨fun h => h1 (of_decide_eq_true h), fun h => h2 (of_decide_eq_false h)⟩
theorem bT {A B : Prop} (h : A) : (true = true → A) ∧ (true = false → B) := ⟨fun _ => h, fun z => nomatch z⟩
theorem bF {A B : Prop} (h : B) : (false = true → A) ∧ (false = false → B) := ⟨fun z => (nomatch z), fun _ => h⟩
theorem b2 {b : Bool} {A B : Prop} (h1 : b = true → A) (h2 : b = false → B) : (b = true → A) ∧ (b = false → B) := ⟨h1, h2⟩
/-- a test whose outcome is known -/
theorem bIs {b : Bool} {A B : Prop} (hb : b = true) (h : A) : (b = true → A) ∧ (b = false → B) := ⟨fun _ => h, fun z => by rw [hb] at z; cases z⟩
theorem bNo {b : Bool} {A B : Prop} (hb : b = false) (h : B) : (b = true → A) ∧ (b = false → B) := ⟨fun z => (by rw [hb] at z; cases z), fun _ => h⟩
end L2

set_option linter.all false
set_option Elab.async false
set_option maxRecDepth 100000
set_option maxHeartbeats 4000000
namespace L2
open PySem PySem.Spec PyProof.Rows
section
variable {X : Cx}
theorem any_plain {pos : Pos} {env : Env} : ∀ {es : List Expr}, es.all plainE = true → (backTo pos (starEach es env)).any (·.1) = false
  | [], _ => rfl
  | e :: es, h => by
    rw [List.all_cons, Bool.and_eq_true] at h
    rw [star_plain h.1]
    have := any_plain (pos := pos) (env := env) h.2
    simp only [backTo, List.map_cons, List.any_cons] at this ⊢
    rw [this]; rfl
theorem star_plains {env : Env} : ∀ {es : List Expr}, es.all plainE = true → starEach es env = es.map fun e => (false, eval e env)
  | [], _ => rfl
  | e :: es, h => by
    rw [List.all_cons, Bool.and_eq_true] at h
    rw [star_plain h.1, star_plains h.2]; rfl
def noComp : Expr → Bool
  | .ListComp .. => false
  | .SetComp .. => false
  | .DictComp .. => false
  | _ => true
theorem swaps_plain {e : Expr} {t : Option Expr} {n : Nat} {env : Env} (h : noComp e = true) : swapsWith e t n env = pure false := by
  cases e <;> first | rfl | cases h
theorem ps_st {i : Nat} {x : Str} {e : Expr} {te : TE} {pos pos' : Pos} (hN : X.N.Nodup) (hi : X.N[i]? = some x) (hx : Loc X.env.scope x) (he : PE X e te) (hs : noComp e = true := by rfl) (hf : X.fn x = true ∨ X.env.scope.names.lookup x = some .local := by first | exact .inl rfl | exact .inr rfl | assumption) :
    PS X (.Assign [.Name x pos'] e pos) (tAsg te (gName i)) := ps_set hN hi hx he (swaps_plain hs) hf
theorem ps_ex {e : Expr} {te : TE} {pos : Pos} (he : PE X e te) (hs : noComp e = true := by rfl) : PS X (.Expr e pos) (tDrop te) := ps_expr he (swaps_plain hs)
/-- a def that may be called by its name -/
structure Def (P : Program) (w : World) (K : PySem.W.Frag) (mg : Str → Option Value) (base : Heap) (k : Nat) (x : Str) (ps : List Str) (sp : Sp) : Prop where
  ex : ∃ f fd, FnOk P w K mg base CX0 k f fd ps sp ∧ Binds K fd ps [] ∧ PySem.W.keepIn K (.ref f) = true ∧ mg x = some (.ref f)
theorem pe_def {k j : Nat} {x : Str} {ps : List Str} {sp : Sp} {e : Expr} {es : List Expr} {t : TA} {p pos : Pos} (D : Def X.prog X.w X.K X.mg X.base k x ps sp) (hr : Room j X.A) (hj : k ≤ j) (hg : Gl X x) (ha : PA X (e :: es) t) (hp : (e :: es).all plainE = true := by rfl) (hdb : (x == ("__debug__" : Str)) = false := by decide) :
    PE X (.Call (.Name x p) (e :: es) [] pos) (tCall sp [] E0 t) := by
  obtain ⟨f, fd, F, b, kp, m⟩ := D.ex
  rw [List.all_cons, Bool.and_eq_true] at hp
  exact pe_call F (hr.mono hj) hg m kp b .nil pass0 ha (hdb := hdb) (he := star_plain hp.1) (hpl := any_plain hp.2)
theorem pe_cB {x : Str} {id : String} {r : List V → Hp → VK → Prop} {e : Expr} {es : List Expr} {t : TA} {p pos : Pos} (hc : CallR X (.builtin id) r) (hg : Gl X x) (hm : X.mg x = none) (hv : bootBuiltins x = some (.builtin id)) (ha : PA X (e :: es) t) (hp : (e :: es).all plainE = true := by rfl) (hn : x ≠ "__name__" := by decide) (hdb : (x == ("__debug__" : Str)) = false := by decide) :
    PE X (.Call (.Name x p) (e :: es) [] pos) (tCB r t) := by
  rw [List.all_cons, Bool.and_eq_true] at hp
  exact pe_callB hc hg hm hv ha hn hdb (star_plain hp.1) (any_plain hp.2)
theorem pe_cT {x : Str} {T : String} {r : List V → Hp → VK → Prop} {e : Expr} {es : List Expr} {t : TA} {p pos : Pos} (hc : CallR X (.type T) r) (hg : Gl X x) (hm : X.mg x = none) (hv : bootBuiltins x = some (.type T)) (ha : PA X (e :: es) t) (hp : (e :: es).all plainE = true := by rfl) (hn : x ≠ "__name__" := by decide) (hdb : (x == ("__debug__" : Str)) = false := by decide) :
    PE X (.Call (.Name x p) (e :: es) [] pos) (tCB r t) := by
  rw [List.all_cons, Bool.and_eq_true] at hp
  exact pe_callTy hc hg hm hv ha hn hdb (star_plain hp.1) (any_plain hp.2)
/-- xs.m(e) of a list, one argument -/
theorem few_plain {cpos : Pos} {e : Expr} {env : Env} (hp : plainE e = true) : ((backTo cpos (starEach [e] env)).all (fun x => !x.1) && (backToKw cpos (keywordEach [] env)).all (fun x => x.1.isSome)
      && decide (([e] : List Expr).length + ([] : List Keyword).length + (if ([] : List Keyword).isEmpty then 0 else 1) < 30)) = true := by
  rw [star_plain hp]; rfl
theorem pe_m1 {o e : Expr} {to te : TE} {name : Str} {apos cpos : Pos} {T id : String} {r : V → List V → Hp → VK → Prop} (pa : PlainAttrs T) (slot : Slot T name id) (hty : typeOf (.builtin id) = pure (.type "method_descriptor")) (hm : MtR X id r) (ho : PE X o to) (ha : PE X e te)
    (hp : plainE e = true := by rfl) (hbase : attributeBase o name X.env (eval o X.env) = eval o X.env := by rfl) (hline : (apos.endLine == cpos.line) = true := by rfl) :
    PE X (.Call (.Attribute o name apos) [e] [] cpos) (tBM X.K T r to (tCons te tNil)) :=
  pe_bm pa slot hty hm ho (pac ha pa_nil hp) hbase (few_plain hp) hline (star_plain hp) rfl
theorem pi_k1 {tg a : Expr} {ta : TA} {p pos : Pos} (hg : Gl X "range") (hm : X.mg "range" = none) (ha : PA X [a] ta) (hp : plainE a = true := by rfl) : PI X tg (.Call (.Name "range" p) [a] [] pos) (mRng1 ta) := pi_r1 hg hm ha (star_plain hp)
theorem pi_k3 {tg a b c : Expr} {ta : TA} {p pos : Pos} (hg : Gl X "range") (hm : X.mg "range" = none) (ha : PA X [a, b, c] ta) (hp : [a, b, c].all plainE = true := by rfl) : PI X tg (.Call (.Name "range" p) [a, b, c] [] pos) (mRngD ta) := by
  have h2 : [b, c].all plainE = true := by simp only [List.all_cons, List.all_nil, Bool.and_true, Bool.and_eq_true] at hp ⊢; exact hp.2
  exact pi_rd hg hm ha (star_plains hp) (star_plains h2)
def noSet : Expr → Bool
  | .Set .. => false
  | _ => true
theorem fold_plain {e : Expr} {env : Env} (h : noSet e = true) : ∀ x, foldedSetIterable e env x = pure x := by
  intro x; cases e <;> first | rfl | cases h
theorem ps_fr {tg iter : Expr} {body : List Stmt} {wi : TI} {g : TG} {tb : TS} {pos : Pos} (hp : PassesOwn (model X.prog X.w) X.A X.env X.xe) (hc : X.calm = true) (hi : PI X tg iter wi) (hg : PG X tg g) (hb : PSs X body tb)
    (hs : noSet iter = true := by rfl) : PS X (.For tg iter body [] pos) (tFor wi g tb) := ps_for hp hc hi hg hb (fold_plain hs)
def plainG : Expr → Bool
  | .Starred .. => false
  | _ => true
theorem assign_plain {e : Expr} {es : List Expr} {env : Env} (h : plainG e = true) : assignEach (e :: es) env = (false, assign e env) :: assignEach es env := by
  cases e <;> first | rfl | cases h
theorem pgs_c {e : Expr} {es : List Expr} {t : TG} {u : TGs} (h1 : PG X e t) (h2 : PGs X es u) (hp : plainG e = true := by rfl) : PGs X (e :: es) (gCm t u) := pgs_cm h1 h2 (by rw [assign_plain hp]; rfl)
theorem assign_plains {env : Env} : ∀ {es : List Expr}, es.all plainG = true → (assignEach es env).length = es.length ∧ (assignEach es env).findIdx? (·.1) = none
  | [], _ => ⟨rfl, rfl⟩
  | e :: es, h => by
    rw [List.all_cons, Bool.and_eq_true] at h
    obtain ⟨h1, h2⟩ := assign_plains (env := env) h.2
    rw [assign_plain h.1]
    refine ⟨by rw [List.length_cons, h1, List.length_cons], ?_⟩
    rw [List.findIdx?_cons, h2]; rfl
theorem pg_t {es : List Expr} {k : Nat} {t : TGs} {pos : Pos} (hc : X.calm = true) (h : PGs X es t) (hp : es.all plainG = true := by rfl) : PG X (.Tuple es k pos) (gTm X.K es.length t) := pg_tm hc h (assign_plains hp).1 (assign_plains hp).2
end
end L2

set_option linter.all false
set_option Elab.async false
set_option maxRecDepth 100000
set_option maxHeartbeats 4000000
namespace L2
open PySem PySem.Spec PyProof.Rows
/-! The judgements, sealed: a term of these rules is found without a look into the model. -/
structure QE (X : Cx) (e : Expr) (t : TE) : Prop where
  h : PE X e t
structure QT (X : Cx) (e : Expr) (t : TT) : Prop where
  h : PT X e t
structure QW (X : Cx) (e : Expr) (t : TT) : Prop where
  h : PW X e t
structure QA (X : Cx) (es : List Expr) (t : TA) : Prop where
  h : PA X es t
  p : es.all plainE = true
structure QS (X : Cx) (st : Stmt) (t : TS) : Prop where
  h : PS X st t
structure QB (X : Cx) (st : List Stmt) (t : TS) : Prop where
  h : PSs X st t
structure QG (X : Cx) (e : Expr) (t : TG) : Prop where
  h : PG X e t
structure QGs (X : Cx) (es : List Expr) (t : TGs) : Prop where
  h : PGs X es t
  p : es.all plainG = true
structure QI (X : Cx) (tg e : Expr) (t : TI) : Prop where
  h : PI X tg e t
structure QIf (X : Cx) (es : List Expr) (t : TT) : Prop where
  h : PIfs X es t
structure QO (X : Cx) (e : Option Expr) (t : TO) : Prop where
  h : PO X e t
section
variable {X : Cx} {e a b c o tg : Expr} {es rest : List Expr} {te ta tb tc to : TE} {t : TA} {pos p p2 : Pos} {st : Stmt} {sts : List Stmt} {x : Str}
/-! blocks -/
theorem qb_nil : QB X [] tNext := ⟨pss_nil⟩
theorem qb_one {u : TS} (h : QS X st u) : QB X [st] u := ⟨pss_one h.h⟩
theorem qb_cons {u v : TS} (h1 : QS X st u) (h2 : QB X sts v) : QB X (st :: sts) (tSeq u v) := ⟨pss_cons h1.h h2.h⟩
theorem qb_mid {u v : TS} (h1 : QS X st u) (h2 : QB X sts v) : QB X (st :: sts) (mMid u v) := ⟨pss_mid h1.h h2.h⟩
/-! statements -/
theorem qs_ret (h : QE X e te) : QS X (.Return (some e) pos) (tRet te) := ⟨ps_ret h.h⟩
theorem qs_ex (h : QE X e te) (hs : noComp e = true := by rfl) : QS X (.Expr e pos) (tDrop te) := ⟨ps_ex h.h hs⟩
theorem qs_set {i : Nat} (hN : X.N.Nodup) (hi : X.N[i]? = some x) (hx : Loc X.env.scope x) (hf : X.fn x = true ∨ X.env.scope.names.lookup x = some .local) (he : QE X e te) (hs : noComp e = true := by rfl) :
    QS X (.Assign [.Name x p] e pos) (tAsg te (gName i)) := ⟨ps_st hN hi hx he.h hs hf⟩
theorem qs_asg {g : TG} (he : QE X e te) (hg : QG X tg g) (hs : noComp e = true := by rfl) (hw : swappedStores [tg] e X.env = pure none := by rfl) (hp : plainG tg = true := by rfl) : QS X (.Assign [tg] e pos) (tAsg te g) :=
  ⟨ps_asg he.h hg.h (swaps_plain hs) hw (by rw [assign_plain hp]; rfl)⟩
theorem qs_aug {i : Nat} {op : Operator} {ti : TIp} (hN : X.N.Nodup) (hi : X.N[i]? = some x) (hx : Loc X.env.scope x) (hf : X.fn x = true ∨ X.env.scope.names.lookup x = some .local) (he : QE X e te) (ho : PIp X op ti) : QS X (.AugAssign (.Name x p) op e pos) (mAug i te ti) :=
  ⟨ps_augm hN hi hx he.h ho hf⟩
theorem qs_if {s1 s2 : List Stmt} {tc : TT} {u v : TS} (hc : QT X c tc) (ha : QB X s1 u) (hb : QB X s2 v) : QS X (.If c s1 s2 pos) (mIfS tc u v) := ⟨ps_ifm hc.h ha.h hb.h⟩
theorem qs_while {tc : TT} {u : TS} (hp : PassesOwn (model X.prog X.w) X.A X.env X.xe) (hc : QT X c tc) (hb : QB X sts u) : QS X (.While c sts [] pos) (mWhile tc u) := ⟨ps_whm hp hc.h hb.h⟩
theorem qs_for {wi : TI} {g : TG} {u : TS} (hp : PassesOwn (model X.prog X.w) X.A X.env X.xe) (hc : X.calm = true) (hi : QI X tg e wi) (hg : QG X tg g) (hb : QB X sts u) (hs : noSet e = true := by rfl) : QS X (.For tg e sts [] pos) (tFor wi g u) := ⟨ps_fr hp hc hi.h hg.h hb.h hs⟩
/-! targets -/
theorem qg_name {i : Nat} (hN : X.N.Nodup) (hi : X.N[i]? = some x) (hx : Loc X.env.scope x) (hf : X.fn x = true ∨ X.env.scope.names.lookup x = some .local) : QG X (.Name x pos) (gName i) := ⟨pg_name hN hi hx hf⟩
theorem qgs_nil : QGs X [] gNm := ⟨pgs_nm, rfl⟩
theorem qgs_cons {g : TG} {u : TGs} (h1 : QG X e g) (h2 : QGs X es u) (hp : plainG e = true := by rfl) : QGs X (e :: es) (gCm g u) := ⟨pgs_c h1.h h2.h hp, by rw [List.all_cons, hp, h2.p]; rfl⟩
theorem qg_tup {k : Nat} {u : TGs} (hc : X.calm = true) (h : QGs X es u) : QG X (.Tuple es k pos) (gTm X.K es.length u) := ⟨pg_t hc h.h h.p⟩
theorem qg_sub (ho : QE X o to) (hi : QE X e te) (hs : PSet X vSet) (ha : ∀ v, assign (.Subscript o e pos) X.env v = (do
      let ov ← holding [v] (eval o X.env)
      let iv ← holding [v, ov] (eval e X.env)
      standAt pos
      holding [v, ov, iv] (setItem ov iv v)
      release [v, ov, iv] []) := by intro _; rfl) : QG X (.Subscript o e pos) (gSub to te vSet) := ⟨pg_sub ho.h hi.h hs ha⟩
/-! what loops walk -/
theorem qi_list (h : QE X e te) : QI X tg e (mItL X.K te) := ⟨pi_lm h.h⟩
theorem qi_r1 (hg : Gl X "range") (hm : X.mg "range" = none) (h : QA X [a] t) : QI X tg (.Call (.Name "range" p) [a] [] pos) (mRng1 t) := ⟨pi_k1 hg hm h.h (by have := h.p; simpa using this)⟩
theorem qi_r3 (hg : Gl X "range") (hm : X.mg "range" = none) (h : QA X [a, b, c] t) : QI X tg (.Call (.Name "range" p) [a, b, c] [] pos) (mRngD t) := ⟨pi_k3 hg hm h.h h.p⟩
/-! arguments -/
theorem qa_nil : QA X [] tNil := ⟨pa_nil, rfl⟩
theorem qa_cons (h1 : QE X e te) (h2 : QA X es t) (hp : plainE e = true := by rfl) : QA X (e :: es) (tCons te t) := ⟨pac h1.h h2.h hp, by rw [List.all_cons, hp, h2.p]; rfl⟩
/-! expressions -/
theorem qv (i : Nat) (hN : X.N[i]? = some x) (hv : Vis X.env.scope x) (hd : (x == ("__debug__" : Str)) = false := by decide) (hcd : (x == ("__classdict__" : Str)) = false := by decide) : QE X (.Name x pos) (mVar i) := ⟨mv i hN hv hd hcd⟩
theorem qe_int {i : Int} {j : Nat} : QE X (.Constant (.int i) j pos) (tC (.int i)) := ⟨pe_int⟩
theorem qe_bl {i : Bool} {j : Nat} : QE X (.Constant (.bool i) j pos) (tC (.bl i)) := ⟨pe_bl⟩
theorem qe_non {j : Nat} : QE X (.Constant .none j pos) (tC .non) := ⟨pe_non⟩
theorem qe_str {i : Str} {j : Nat} : QE X (.Constant (.str i) j pos) (tC (.str i)) := ⟨pe_str⟩
theorem qe_ty {T : String} (hg : Gl X x) (hm : X.mg x = none) (hv : bootBuiltins x = some (.type T)) (hn : x ≠ "__name__" := by decide) (hd : (x == ("__debug__" : Str)) = false := by decide) : QE X (.Name x pos) (tC (.ty T)) := ⟨pe_tyn hg hm hv hn hd⟩
theorem qe_op {op : Operator} {r : R2} (ho : OpR X (binaryOp op) r) (ha : QE X a ta) (hb : QE X b tb) : QE X (.BinOp a op b pos) (tOp r ta tb) := ⟨pe_op ho ha.h hb.h⟩
theorem qe_un {op : UnaryOp} {r : V → Hp → VK → Prop} (ho : UnR X (unaryOp op) r) (ha : QE X a ta) : QE X (.UnaryOp op a pos) (tUn r ta) := ⟨pe_un ho ha.h⟩
theorem qe_not (ha : QE X a ta) : QE X (.UnaryOp .Not a pos) (mNotV X.K ta) := ⟨pe_nm ha.h⟩
theorem qe_cmp {op : CmpOp} {r : R2} (ho : OpR X (compareOp op) r) (ha : QE X a ta) (hb : QE X b tb) (h1 : op ≠ .In := by decide) (h2 : op ≠ .NotIn := by decide) : QE X (.Compare a [op] [b] pos) (tOp r ta tb) := ⟨pe_cmpR ho ha.h hb.h (nomark b h1 h2)⟩
theorem qe_chain {op op' : CmpOp} {r r' : R2} (ho : OpR X (compareOp op) r) (ho' : OpR X (compareOp op') r') (ha : QE X a ta) (hb : QE X b tb) (hc : QE X c tc) (hm : lastMarks [op, op'] [b, c] = false := by with_unfolding_all rfl) : QE X (.Compare a [op, op'] [b, c] pos) (mChain r r' ta tb tc) := ⟨pe_chm ho ho' ha.h hb.h hc.h hm⟩
theorem qe_one {op : BoolOp} (h : QE X a ta) : QE X (.BoolOp op [a] pos) ta := ⟨pe_one h.h⟩
theorem qe_and (ha : QE X a ta) (hb : QE X (.BoolOp .And (b :: rest) pos) tb) : QE X (.BoolOp .And (a :: b :: rest) pos) (mAndV X.K ta tb) := ⟨pe_am ha.h hb.h⟩
theorem qe_lst (h : QA X es t) : QE X (.List es pos) (mLst t) := ⟨pe_lm h.h⟩
theorem qe_tup {k : Nat} (h : QA X es t) : QE X (.Tuple es k pos) (mTup t) := ⟨pe_tm h.h⟩
theorem qo_none : QO X none tNoPart := ⟨po_none⟩
theorem qo_some (h : QE X e te) : QO X (some e) (mPart te) := ⟨po_m h.h⟩
theorem qe_slice {lo hi : Option Expr} {tl th : TO} (he : QE X e te) (hl : QO X lo tl) (hu : QO X hi th) : QE X (.Subscript e (.Slice lo hi none p2) pos) (tSl (vSl X.K) te tl th) := ⟨pe_slice slM he.h hl.h hu.h⟩
theorem qe_ix (ha : QE X a ta) (hb : QE X b tb) (hs : PlainIx b) : QE X (.Subscript a b pos) (tOp (vIx X.K) ta tb) := ⟨pe_ix ixM ha.h hb.h hs⟩
theorem qe_def {k j : Nat} {ps : List Str} {sp : Sp} (D : Def X.prog X.w X.K X.mg X.base k x ps sp) (hr : Room j X.A) (hj : k ≤ j) (hg : Gl X x) (ha : QA X (e :: es) t) (hdb : (x == ("__debug__" : Str)) = false := by decide) : QE X (.Call (.Name x p) (e :: es) [] pos) (tCall sp [] E0 t) := ⟨pe_def D hr hj hg ha.h ha.p hdb⟩
theorem qe_cB {id : String} {r : List V → Hp → VK → Prop} (hc : CallR X (.builtin id) r) (hg : Gl X x) (hm : X.mg x = none) (hv : bootBuiltins x = some (.builtin id)) (ha : QA X (e :: es) t) (hn : x ≠ "__name__" := by decide) (hdb : (x == ("__debug__" : Str)) = false := by decide) : QE X (.Call (.Name x p) (e :: es) [] pos) (tCB r t) := ⟨pe_cB hc hg hm hv ha.h ha.p hn hdb⟩
theorem qe_cT {T : String} {r : List V → Hp → VK → Prop} (hc : CallR X (.type T) r) (hg : Gl X x) (hm : X.mg x = none) (hv : bootBuiltins x = some (.type T)) (ha : QA X (e :: es) t) (hn : x ≠ "__name__" := by decide) (hdb : (x == ("__debug__" : Str)) = false := by decide) : QE X (.Call (.Name x p) (e :: es) [] pos) (tCB r t) := ⟨pe_cT hc hg hm hv ha.h ha.p hn hdb⟩
theorem qe_enumL {pos2 : Pos} (hc : X.calm = true) (hg : Gl X "list") (hm : X.mg "list" = none) (hg2 : Gl X "enumerate") (hm2 : X.mg "enumerate" = none) (ha : QA X [a] t) : QE X (.Call (.Name "list" p) [.Call (.Name "enumerate" p2) [a] [] pos2] [] pos) (tEnumL X.K t) :=
  ⟨pe_enumL hc hg hm hg2 hm2 ha.h (star_plains ha.p)⟩
theorem qe_m1 {name : Str} {T id : String} {r : V → List V → Hp → VK → Prop} (pa : PlainAttrs T) (slot : Slot T name id) (hty : typeOf (.builtin id) = pure (.type "method_descriptor")) (hm : MtR X id r) (ho : QE X o to) (ha : QE X e te)
    (hp : plainE e = true := by rfl) (hbase : attributeBase o name X.env (eval o X.env) = eval o X.env := by rfl) (hline : (p.endLine == pos.line) = true := by rfl) : QE X (.Call (.Attribute o name p) [e] [] pos) (tBM X.K T r to (tCons te tNil)) := ⟨pe_m1 pa slot hty hm ho.h ha.h hp hbase hline⟩
/-! tests -/
theorem qt_cmp {op : CmpOp} {r : R2} (ho : OpR X (compareOp op) r) (ha : QE X a ta) (hb : QE X b tb) (h1 : op ≠ .In := by decide) (h2 : op ≠ .NotIn := by decide) : QT X (.Compare a [op] [b] pos) (mB (tOp r ta tb)) := ⟨pt_cm ho ha.h hb.h (nomark b h1 h2)⟩
theorem qw_and1 {tA : TT} (ha : QT X a tA) : QW X (.BoolOp .And [a] pos) tA := ⟨pw_and1 ha.h⟩
theorem qw_or1 {tA : TT} (ha : QT X a tA) : QW X (.BoolOp .Or [a] pos) tA := ⟨pw_or1 ha.h⟩
theorem qw_and {tA tB' : TT} (ha : QT X a tA) (hb : QW X (.BoolOp .And (b :: rest) pos) tB') : QW X (.BoolOp .And (a :: b :: rest) pos) (mAnd tA tB') := ⟨pw_am ha.h hb.h⟩
theorem qw_or {tA tB' : TT} (ha : QT X a tA) (hb : QW X (.BoolOp .Or (b :: rest) pos) tB') : QW X (.BoolOp .Or (a :: b :: rest) pos) (mOr tA tB') := ⟨pw_om ha.h hb.h⟩
theorem QW.pt {tA : TT} (h : QW X a tA) : QT X a tA := ⟨h.h.pt⟩
theorem qt_not {tA : TT} (ha : QT X a tA) : QT X (.UnaryOp .Not a pos) (tNot tA) := ⟨pt_not ha.h⟩
theorem qt_val (ha : QE X a ta) (he : ∀ whole, isTrue a X.env whole = (do let v ← whole; standAt a.pos; holding [v] (truthy v)) := by intro _; rfl) : QT X a (mT X.K ta) := ⟨pt_m ha.h he⟩
/-! comprehensions -/
theorem qif_nil : QIf X [] tYes := ⟨pifs_nil⟩
theorem qe_comp (N' : List Str) (caps : List (Option Nat)) {elt iter : Expr} {ifs : List Expr} {scope : Scope} {wi : TI} {g : TG} {tt : TT} (hc : X.calm = true) (hi : QI X tg iter wi)
    (hg : ∀ pins cl C s0 H0 fp, QG (cxComp X pins N' scope cl C s0 H0 fp) tg g) (ht : ∀ pins cl C s0 H0 fp, QIf (cxComp X pins N' scope cl C s0 H0 fp) ifs tt) (he : ∀ pins cl C s0 H0 fp, QE (cxComp X pins N' scope cl C s0 H0 fp) elt te)
    (hcap : capOk N' caps X.N X.env.scope.names scope.names = true := by kernel_rfl) (hkind : scope.kind = .function := by rfl) (hs : noSet iter = true := by rfl) :
    QE X (.ListComp elt [⟨tg, iter, ifs, 0⟩] scope pos) (tComp caps wi g tt te) :=
  ⟨pe_comp N' caps hc hi.h (fun a b c d e f => (hg a b c d e f).h) (fun a b c d e f => (ht a b c d e f).h) (fun a b c d e f => (he a b c d e f).h) hcap hkind (fold_plain hs)⟩
theorem qs_comp (N' : List Str) (caps : List (Option Nat)) {i : Nat} {elt iter : Expr} {ifs : List Expr} {scope : Scope} {wi : TI} {g : TG} {tt : TT} (hc : X.calm = true) (hN : X.N.Nodup) (hy : X.N[i]? = some x) (hl : Loc X.env.scope x) (hf : X.fn x = true ∨ X.env.scope.names.lookup x = some .local) (hi : QI X tg iter wi)
    (hg : ∀ pins cl C s0 H0 fp, QG (cxComp X pins N' scope cl C s0 H0 fp) tg g) (ht : ∀ pins cl C s0 H0 fp, QIf (cxComp X pins N' scope cl C s0 H0 fp) ifs tt) (he : ∀ pins cl C s0 H0 fp, QE (cxComp X pins N' scope cl C s0 H0 fp) elt te)
    (hsw : swapsWith (.ListComp elt [⟨tg, iter, ifs, 0⟩] scope pos) (some (.Name x p)) p2.line X.env = pure true := by rfl)
    (hcap : capOk N' caps X.N X.env.scope.names scope.names = true := by kernel_rfl) (hkind : scope.kind = .function := by rfl) (hs : noSet iter = true := by rfl) :
    QS X (.Assign [.Name x p] (.ListComp elt [⟨tg, iter, ifs, 0⟩] scope pos) p2) (tAsg (tComp caps wi g tt te) (gName i)) :=
  ⟨ps_comp N' caps hc hN hy hl hi.h (fun a b c d e f => (hg a b c d e f).h) (fun a b c d e f => (ht a b c d e f).h) (fun a b c d e f => (he a b c d e f).h) hsw hcap hkind (fold_plain hs) hf⟩
end
/-- the rule for a def, by a sealed body -/
theorem Fun.okq {P : Program} {w : World} {K : PySem.W.Frag} {mg : Str → Option Value} {base : Heap} {x qual : Str} {st : Stmt} {f : Addr} {fd : FuncData} {N ps : List Str} {k : Nat} {sp : Sp} (F : Fun K x qual st f fd) (S : FnScope N ps (defScope st)) (len : ∀ vs H Q E, sp vs H Q E → vs.length = ps.length)
    (hbody : ∀ (cdv : Value) (A : Around) (outer : List Env) (s : Shared) (H : Hp) (vs : List V) (Q : VK) (E : XK), Room k (A.deeper (envOfC qual (defScope st) s.heap.objs.size f cdv)) → sp vs H Q E →
      ∃ T : { t : TS // QB (cxOf CX0 P w K mg base N qual (defScope st) f cdv A outer s H E).nox (defBody st) t }, T.1 { nx := fun _ H' => Q .non H', rt := Q } (start N vs) H) : FnOk P w K mg base CX0 (k + 1) f fd ps sp :=
  F.ok S len fun cdv A outer s H vs Q E hr h => let ⟨T, q⟩ := hbody cdv A outer s H vs Q E hr h; ⟨T.1, T.2.h, q⟩
end L2

set_option linter.all false
set_option Elab.async false
set_option maxRecDepth 100000
set_option maxHeartbeats 4000000
namespace L2
open PySem PySem.Spec PyProof.Rows
/-! ### readings, closed upward -/
def upE (t : TE) : TE := fun σ H Q => ∃ P : VK, t σ H P ∧ ∀ v H1, P v H1 → Q v H1
def upT (t : TT) : TT := fun σ H Q => ∃ P : Bool → Hp → Prop, t σ H P ∧ ∀ v H1, P v H1 → Q v H1
def upG (t : TG) : TG := fun v σ H Q => ∃ P : St → Hp → Prop, t v σ H P ∧ ∀ σ1 H1, P σ1 H1 → Q σ1 H1
section
variable {X : Cx} {e a b c tg : Expr} {te : TE} {pos p p2 : Pos} {x : Str}
theorem QE.up (h : QE X e te) : QE X e (upE te) := ⟨by
  intro pins s σ H Q I w
  obtain ⟨P, w, hP⟩ := w
  exact thn (h.h pins s σ H P I w) fun u s1 ⟨v, H1, I1, r1, q1⟩ => ⟨v, H1, I1, r1, hP _ _ q1⟩⟩
theorem QIf.up {es : List Expr} {tt : TT} (h : QIf X es tt) : QIf X es (upT tt) := ⟨by
  intro pins s σ H Q I w
  obtain ⟨P, w, hP⟩ := w
  exact thn (h.h pins s σ H P I w) fun u s1 ⟨H1, I1, q1⟩ => ⟨H1, I1, hP _ _ q1⟩⟩
theorem QG.up {g : TG} (h : QG X e g) : QG X e (upG g) := ⟨by
  intro pins s σ H v u Q I r w
  obtain ⟨P, w, hP⟩ := w
  exact thn (h.h pins s σ H v u P I r w) fun u s1 ⟨σ1, H1, I1, q1⟩ => ⟨σ1, H1, I1, hP _ _ q1⟩⟩
theorem qe_cp (N' : List Str) (caps : List (Option Nat)) {elt iter : Expr} {ifs : List Expr} {scope : Scope} {wi : TI} {g : TG} {tt : TT} (hc : X.calm = true) (hi : QI X tg iter wi)
    (hg : ∀ pins cl C s0 H0 fp, QG (cxComp X pins N' scope cl C s0 H0 fp) tg g) (ht : ∀ pins cl C s0 H0 fp, QIf (cxComp X pins N' scope cl C s0 H0 fp) ifs tt) (he : ∀ pins cl C s0 H0 fp, QE (cxComp X pins N' scope cl C s0 H0 fp) elt te)
    (hcap : capOk N' caps X.N X.env.scope.names scope.names = true := by kernel_rfl) (hkind : scope.kind = .function := by rfl) (hs : noSet iter = true := by rfl) :
    QE X (.ListComp elt [⟨tg, iter, ifs, 0⟩] scope pos) (tComp caps wi (upG g) (upT tt) (upE te)) :=
  qe_comp N' caps hc hi (fun a b c d e f => (hg a b c d e f).up) (fun a b c d e f => (ht a b c d e f).up) (fun a b c d e f => (he a b c d e f).up) hcap hkind hs
theorem qs_cp (N' : List Str) (caps : List (Option Nat)) {i : Nat} {elt iter : Expr} {ifs : List Expr} {scope : Scope} {wi : TI} {g : TG} {tt : TT} (hc : X.calm = true) (hN : X.N.Nodup) (hy : X.N[i]? = some x) (hl : Loc X.env.scope x) (hf : X.fn x = true ∨ X.env.scope.names.lookup x = some .local) (hi : QI X tg iter wi)
    (hg : ∀ pins cl C s0 H0 fp, QG (cxComp X pins N' scope cl C s0 H0 fp) tg g) (ht : ∀ pins cl C s0 H0 fp, QIf (cxComp X pins N' scope cl C s0 H0 fp) ifs tt) (he : ∀ pins cl C s0 H0 fp, QE (cxComp X pins N' scope cl C s0 H0 fp) elt te)
    (hsw : swapsWith (.ListComp elt [⟨tg, iter, ifs, 0⟩] scope pos) (some (.Name x p)) p2.line X.env = pure true := by rfl)
    (hcap : capOk N' caps X.N X.env.scope.names scope.names = true := by kernel_rfl) (hkind : scope.kind = .function := by rfl) (hs : noSet iter = true := by rfl) :
    QS X (.Assign [.Name x p] (.ListComp elt [⟨tg, iter, ifs, 0⟩] scope pos) p2) (tAsg (tComp caps wi (upG g) (upT tt) (upE te)) (gName i)) :=
  qs_comp N' caps hc hN hy hl hf hi (fun a b c d e f => (hg a b c d e f).up) (fun a b c d e f => (ht a b c d e f).up) (fun a b c d e f => (he a b c d e f).up) hsw hcap hkind hs
end
/-- one turn of a comprehension, the new list at D -/
def Turn1 (g : TG) (tt : TT) (te : TE) (D : Addr) (ys : List V) (x : V) (σ : St) (H : Hp) (N : St → Hp → List V → Prop) : Prop :=
  g x σ H fun σ2 H3 => tt σ2 H3 fun b H4 => (b = true → te σ2 H4 fun v H5 => H5 D = some (.lst ys) ∧ ys.length < sizeLine ∧ ∀ H6, Kp [D] H5 H6 → H6 D = some (.lst (ys ++ [v])) → N σ2 H6 (ys ++ [v])) ∧ (b = false → H4 D = some (.lst ys) ∧ N σ2 H4 ys)
theorem turn1_ok {g : TG} {tt : TT} {te : TE} {D : Addr} {ys : List V} {x : V} {σ : St} {H : Hp} {N : St → Hp → List V → Prop} {M : St → Hp → Prop} (h : Turn1 g tt te D ys x σ H N) (hM : ∀ σ H ys, H D = some (.lst ys) → N σ H ys → M σ H) :
    upG g x σ H fun σ2 H3 => upT tt σ2 H3 fun b H4 => if b = true then upE te σ2 H4 fun v H5 => ∃ ys, H5 D = some (.lst ys) ∧ ys.length < sizeLine ∧ M σ2 (upd H5 D (.lst (ys ++ [v]))) else M σ2 H4 := by
  refine ⟨_, h, fun σ2 H3 h => ⟨_, h, fun b H4 h => ?_⟩⟩
  cases b with
  | true => exact iteT ⟨_, h.1 rfl, fun v H5 q => ⟨ys, q.1, q.2.1, hM _ _ _ upd_same (q.2.2 _ kp_upd upd_same)⟩⟩
  | false => exact iteF (hM _ _ _ (h.2 rfl).1 (h.2 rfl).2)
section
variable {g : TG} {tt : TT} {te : TE} {σ0 : St} {H1 : Hp} {Q : Addr → Hp → Prop} {K : PySem.W.Frag}
theorem comp_rng {lo : Int} {n : Nat} (R : Nat → Addr → St → Hp → List V → Prop)
    (h0 : ∀ D H', H1 D = none → Same H1 H' → H' D = some (.lst []) → R 0 D σ0 H' [])
    (hs : ∀ i D σ H ys, i < n → H1 D = none → R i D σ H ys → H D = some (.lst ys) → Turn1 g tt te D ys (.int (lo + i)) σ H (R (i + 1) D))
    (hd : ∀ D σ H ys, H1 D = none → R n D σ H ys → H D = some (.lst ys) → Q D H) : ∀ D, H1 D = none → compRead (Itr lo n) D (upG g) (upT tt) (upE te) σ0 (upd H1 D (.lst [])) fun H2 => Q D H2 := by
  intro D hD
  refine comp_range (fun i σ H => ∃ ys, H D = some (.lst ys) ∧ R i D σ H ys) ⟨[], upd_same, h0 D _ hD (same_upd hD) upd_same⟩ ?_ ?_
  · rintro i σ H hi ⟨ys, e, r⟩
    exact turn1_ok (hs i D σ H ys hi hD r e) fun σ H ys e r => ⟨ys, e, r⟩
  · rintro σ H ⟨ys, e, r⟩
    exact hd D σ H ys hD r e
theorem comp_lst {a : Addr} (xs : List V) (R : Nat → Addr → St → Hp → List V → Prop)
    (h0 : ∀ D H', H1 D = none → Same H1 H' → H' D = some (.lst []) → R 0 D σ0 H' [])
    (hl : ∀ i D σ H ys, H1 D = none → R i D σ H ys → SqL K H a xs)
    (hs : ∀ i x D σ H ys, xs[i]? = some x → H1 D = none → R i D σ H ys → H D = some (.lst ys) → Turn1 g tt te D ys x σ H (R (i + 1) D))
    (hd : ∀ D σ H ys, H1 D = none → R xs.length D σ H ys → H D = some (.lst ys) → Q D H) : ∀ D, H1 D = none → compRead (Itl K a) D (upG g) (upT tt) (upE te) σ0 (upd H1 D (.lst [])) fun H2 => Q D H2 := by
  intro D hD
  refine comp_list (xs := xs) (fun i σ H => ∃ ys, H D = some (.lst ys) ∧ R i D σ H ys) ⟨[], upd_same, h0 D _ hD (same_upd hD) upd_same⟩ ?_ ?_ ?_
  · rintro i σ H _ ⟨ys, e, r⟩
    exact hl i D σ H ys hD r
  · rintro i x σ H hi ⟨ys, e, r⟩
    exact turn1_ok (hs i x D σ H ys hi hD r e) fun σ H ys e r => ⟨ys, e, r⟩
  · rintro σ H ⟨ys, e, r⟩
    exact hd D σ H ys hD r e
end
end L2
namespace L2
open PySem
theorem Kp.new {S : List Addr} {H H5 H6 : Hp} {D : Addr} (k : Kp S H H5) (k6 : Kp [D] H5 H6) (hD : H D = none) : Kp S H H6 := fun b o n q => k6.one (ne_of_none q hD) (k b o n q)
theorem Same.new {H H5 H6 : Hp} {D : Addr} (k : Same H H5) (k6 : Kp [D] H5 H6) (hD : H D = none) : Same H H6 := fun b o q => k6.one (ne_of_none q hD) (k b o q)
theorem Kp.same {S : List Addr} {H H5 H6 : Hp} (k : Kp S H H5) (s : Same H5 H6) : Kp S H H6 := fun b o n q => s b o (k b o n q)
theorem sz_of {n : Nat} (h : n ≤ 100000) : n ≤ sizeLine := by rw [sizeLine_eq]; omega
theorem sz_lt {n : Nat} (h : n ≤ 100000) : n < sizeLine := by rw [sizeLine_eq]; omega
theorem map_snoc (zs : List Int) (z : Int) : zs.map V.int ++ [V.int z] = (zs ++ [z]).map V.int := by rw [List.map_append]; rfl
theorem vints_at {zs : List Int} {i : Nat} {x : V} (h : (zs.map V.int)[i]? = some x) : ∃ z, x = .int z ∧ zs[i]? = some z ∧ z ∈ zs := by
  rw [List.getElem?_map] at h
  cases e : zs[i]? with
  | none => rw [e] at h; cases h
  | some z =>
    rw [e] at h
    exact ⟨z, (Option.some.inj h).symm, rfl, List.mem_of_getElem? e⟩
end L2

set_option linter.all false
set_option Elab.async false
set_option maxRecDepth 100000
set_option maxHeartbeats 4000000
namespace L2
open PySem PySem.Spec PyProof.Rows
/-! ### data that is shown -/
def intsD (ns : List Int) : PyData := .list (ns.map PyData.int)
theorem paired_ints {H : Hp} (n : Nat) : ∀ ns : List Int, Paired (RV n H) (ns.map V.int) (ns.map PyData.int)
  | [] => .nil
  | k :: ns => .cons (by cases n <;> rfl) (paired_ints n ns)
theorem log2_of {i : Int} (h : i.natAbs < 10 ^ 40) : i.natAbs.log2 < 1920 := by
  by_cases h0 : i.natAbs = 0
  · rw [h0]; decide
  · exact (Nat.log2_lt h0).mpr (Nat.lt_of_lt_of_le h (by decide +kernel))
theorem shown_int_len {i : Int} (h : i.natAbs < 10 ^ 40) : (PyData.shown (.int i)).length ≤ 41 := by
  have e := int_text_length_le10 (k := 40) (by decide) h
  show (Str.ofString (toString i)).length ≤ 41
  rw [PySem.ofString_length]; exact e
theorem ints_ok {ns : List Int} (h : ∀ n ∈ ns, n.natAbs < 10 ^ 40) : PyData.showableAll (ns.map PyData.int) = true ∧ PyData.hasDictAll (ns.map PyData.int) = false ∧ PyData.leavesShortAll 41 (ns.map PyData.int) = true ∧ PyData.bulkAll (ns.map PyData.int) = ns.length := by
  induction ns with
  | nil => exact ⟨rfl, rfl, rfl, rfl⟩
  | cons k ns ih =>
    obtain ⟨h1, h2, h3, h4⟩ := ih fun n hn => h n (List.mem_cons_of_mem _ hn)
    have hk := h k List.mem_cons_self
    refine ⟨?_, ?_, ?_, ?_⟩
    · simp only [List.map_cons, PyData.showableAll, h1, Bool.and_true, PyData.showable, decide_eq_true_eq]; exact log2_of hk
    · simp only [List.map_cons, PyData.hasDictAll, h2, PyData.hasDict, Bool.or_false]
    · simp only [List.map_cons, PyData.leavesShortAll, h3, Bool.and_true, PyData.leavesShort, decide_eq_true_eq]; exact shown_int_len hk
    · simp only [List.map_cons, PyData.bulkAll, h4, PyData.bulk, List.length_cons]; omega
theorem depth_ints : ∀ ns : List Int, (intsD ns).depth ≤ 30
  | [] => by simp [intsD, PyData.depth, PyData.depthAll]
  | k :: ns => by
    have := depth_ints ns
    simp only [intsD, List.map_cons, PyData.depth, PyData.depthAll] at this ⊢
    omega
/-! ### loops, the heap unnamed -/
section
variable {g : TG} {tb : TS} {D : Ends} {σ : St} {H : Hp} {K : PySem.W.Frag}
end
theorem i_isi {K : PySem.W.Frag} {H : Hp} {Q : VK} {x : V} {t c : String} (ty : TyOf K H x (.type t)) (ht : t ∈ ["NoneType", "bool", "int", "str", "list", "tuple", "dict"]) (hc : c ∈ ["bool", "int", "str", "list", "tuple", "dict"]) (q : Q (.bl (isTy t c)) H) : hIsi K x c H Q := by
  unfold hIsi; exact ⟨t, ty, ht, hc, q⟩
end L2

set_option linter.all false
set_option Elab.async false
set_option maxRecDepth 100000
set_option maxHeartbeats 4000000
namespace L2
open PySem PySem.Spec PyProof.Rows
/-! ### zip over two lists -/
section
variable {X : Cx}
end
section
variable {g : TG} {tt : TT} {te : TE} {σ0 : St} {H1 : Hp} {Q : Addr → Hp → Prop} {K : PySem.W.Frag}
end
end L2

set_option linter.all false
set_option Elab.async false
set_option maxRecDepth 100000
set_option maxHeartbeats 4000000
namespace L2
open PySem PySem.Spec PyProof.Rows
/-! The rules that speak of the written part, with it named. -/
section
variable {X : Cx} {K : PySem.W.Frag} {e a b c o tg : Expr} {es rest : List Expr} {te ta tb tc to : TE} {t : TA} {pos p p2 : Pos} {x : Str}
theorem kg_tup {k : Nat} {u : TGs} (hK : X.K = K) (hc : X.calm = true) (h : QGs X es u) : QG X (.Tuple es k pos) (gTm K es.length u) := hK ▸ qg_tup hc h
theorem ki_list (hK : X.K = K) (h : QE X e te) : QI X tg e (mItL K te) := hK ▸ qi_list h
theorem ke_not (hK : X.K = K) (ha : QE X a ta) : QE X (.UnaryOp .Not a pos) (mNotV K ta) := hK ▸ qe_not ha
theorem ke_and (hK : X.K = K) (ha : QE X a ta) (hb : QE X (.BoolOp .And (b :: rest) pos) tb) : QE X (.BoolOp .And (a :: b :: rest) pos) (mAndV K ta tb) := hK ▸ qe_and ha hb
theorem ke_slice {lo hi : Option Expr} {tl th : TO} (hK : X.K = K) (he : QE X e te) (hl : QO X lo tl) (hu : QO X hi th) : QE X (.Subscript e (.Slice lo hi none p2) pos) (tSl (vSl K) te tl th) := hK ▸ qe_slice he hl hu
theorem ke_ix (hK : X.K = K) (ha : QE X a ta) (hb : QE X b tb) (hs : PlainIx b) : QE X (.Subscript a b pos) (tOp (vIx K) ta tb) := hK ▸ qe_ix ha hb hs
theorem ke_enumL {pos2 : Pos} (hK : X.K = K) (hc : X.calm = true) (hg : Gl X "list") (hm : X.mg "list" = none) (hg2 : Gl X "enumerate") (hm2 : X.mg "enumerate" = none) (ha : QA X [a] t) : QE X (.Call (.Name "list" p) [.Call (.Name "enumerate" p2) [a] [] pos2] [] pos) (tEnumL K t) := hK ▸ qe_enumL hc hg hm hg2 hm2 ha
theorem ke_m1 {name : Str} {T id : String} {r : V → List V → Hp → VK → Prop} (hK : X.K = K) (pa : PlainAttrs T) (slot : Slot T name id) (hty : typeOf (.builtin id) = pure (.type "method_descriptor")) (hm : MtR X id r) (ho : QE X o to) (ha : QE X e te)
    (hp : plainE e = true := by rfl) (hbase : attributeBase o name X.env (eval o X.env) = eval o X.env := by rfl) (hline : (p.endLine == pos.line) = true := by rfl) : QE X (.Call (.Attribute o name p) [e] [] pos) (tBM K T r to (tCons te tNil)) := hK ▸ qe_m1 pa slot hty hm ho ha hp hbase hline
theorem kt_val (hK : X.K = K) (ha : QE X a ta) (he : ∀ whole, isTrue a X.env whole = (do let v ← whole; standAt a.pos; holding [v] (truthy v)) := by intro _; rfl) : QT X a (mT K ta) := hK ▸ qt_val ha he
theorem kSum (hK : X.K = K) (hc : X.calm = true) : CallR X (.builtin "sum") (vSum K) := hK ▸ callSum hc
theorem kMax (hK : X.K = K) (hc : X.calm = true) : CallR X (.builtin "max") (vMax K) := hK ▸ callMax hc
theorem kMin (hK : X.K = K) (hc : X.calm = true) : CallR X (.builtin "min") (vMin K) := hK ▸ callMin hc
theorem kLen (hK : X.K = K) : CallR X (.builtin "len") (vLen K) := hK ▸ callLen
theorem kList (hK : X.K = K) : CallR X (.type "list") (vCopy K) := hK ▸ callList
theorem kSorted (hK : X.K = K) : CallR X (.builtin "sorted") (vSorted K) := hK ▸ callSorted
def vClr : V → List V → Hp → VK → Prop := fun x vs H Q => match x, vs with
  | .ref a, [] => hClr a H Q
  | _, _ => False
end
/-! ### == and != of things that read as one -/
section
variable {X : Cx}
theorem paired_at {α β : Type} {R : α → β → Prop} : ∀ {xs : List α} {ys : List β}, Paired R xs ys → ∀ (j : Nat) {x : α} {y : β}, xs[j]? = some x → ys[j]? = some y → R x y
  | _, _, .nil, j, _, _, h, _ => by simp at h
  | _, _, .cons r t, 0, _, _, h1, h2 => by simp at h1 h2; subst h1; subst h2; exact r
  | _, _, .cons r t, j + 1, _, _, h1, h2 => paired_at t j (by simpa using h1) (by simpa using h2)
theorem all_true (n : Nat) : ((List.range n).all fun _ => true) = true := by simp
theorem seq_same {pins : List (Addr × Obj)} {σ : St} {H : Hp} {s : Shared} {n : Nat} {A : Around} {xs ys : List V} {us vs : List Value} {ds : List PyData}
    (ih : ∀ (x y : V) (u v : Value) (d : PyData), RV n H x d → RV n H y d → RelV x u → RelV y v → SeqAt.EqAt A s u v true) (p1 : Paired (RV n H) xs ds) (p2 : Paired (RV n H) ys ds) (r1 : Vals xs us) (r2 : Vals ys vs) :
    us.toArray.size = vs.toArray.size ∧ ∀ j (h1 : j < us.toArray.size) (h2 : j < vs.toArray.size), SeqAt.EqAt A s us.toArray[j] vs.toArray[j] ((fun _ => true) j) := by
  have l1 := Paired.length p1
  have l2 := Paired.length p2
  have l3 := Paired.length r1
  have l4 := Paired.length r2
  refine ⟨by simp only [List.size_toArray]; omega, fun j h1 h2 => ?_⟩
  have h1' : j < us.length := by simpa using h1
  have h2' : j < vs.length := by simpa using h2
  have hx : j < xs.length := by omega
  have hy : j < ys.length := by omega
  have hd : j < ds.length := by omega
  exact ih xs[j] ys[j] _ _ ds[j] (paired_at p1 j (List.getElem?_eq_getElem hx) (List.getElem?_eq_getElem hd)) (paired_at p2 j (List.getElem?_eq_getElem hy) (List.getElem?_eq_getElem hd))
    (paired_at r1 j (List.getElem?_eq_getElem hx) (by simp [h1'])) (paired_at r2 j (List.getElem?_eq_getElem hy) (by simp [h2']))
/-- the parts of a thing that reads as data -/
inductive RdP (n : Nat) (H : Hp) (h : Heap) (a : Addr) : PyData → Prop where
  | lst {xs : List V} {us : List Value} {ds : List PyData} (p : Paired (RV n H) xs ds) (r : Vals xs us) (l : h.IsList a us.toArray) : RdP n H h a (.list ds)
  | tup {xs : List V} {us : List Value} {ds : List PyData} (p : Paired (RV n H) xs ds) (r : Vals xs us) (l : h.IsTuple a us.toArray) : RdP n H h a (.tuple ds)
theorem rdP_of {pins : List (Addr × Obj)} {σ : St} {H : Hp} {s : Shared} (I : Inv X pins σ H s) {n : Nat} {a : Addr} {d : PyData} (h : RV (n + 1) H (.ref a) d) : RdP n H s.heap a d := by
  rcases (show (∃ xs ds, Rd H a (.lst xs) ∧ d = .list ds ∧ Paired (RV n H) xs ds) ∨ ∃ xs ds, Rd H a (.tup xs) ∧ d = .tuple ds ∧ Paired (RV n H) xs ds from h) with ⟨xs, ds, h1, rfl, h3⟩ | ⟨xs, ds, h1, rfl, h3⟩
  · obtain ⟨us, r, p, _⟩ := I.list (.inl h1)
    exact .lst h3 r p.isList
  · obtain ⟨us, r, p, _⟩ := I.tuple (.inl h1)
    exact .tup h3 r p
def flatD : V → Option PyData
  | .non => some .none
  | .bl b => some (.bool b)
  | .int i => some (.int i)
  | .str x => some (.str x)
  | _ => none
theorem rv_scal {n : Nat} {H : Hp} {x : V} {d : PyData} (h : RV n H x d) (hx : ∀ a, x ≠ .ref a) : flatD x = some d := by
  cases x with
  | non => have e : d = .none := by cases n <;> exact h
           rw [e]; rfl
  | bl b => have e : d = .bool b := by cases n <;> exact h
            rw [e]; rfl
  | int i => have e : d = .int i := by cases n <;> exact h
             rw [e]; rfl
  | str i => have e : d = .str i := by cases n <;> exact h
             rw [e]; rfl
  | ref a => exact absurd rfl (hx a)
  | byt b => cases n <;> exact (show False from h).elim
  | flt b => cases n <;> exact (show False from h).elim
  | ty b => cases n <;> exact (show False from h).elim
theorem rv_ref {n : Nat} {H : Hp} {a : Addr} {d : PyData} (h : RV n H (.ref a) d) : (∃ ds, d = .list ds) ∨ ∃ ds, d = .tuple ds := by
  cases n with
  | zero => exact (show False from h).elim
  | succ n =>
    rcases (show (∃ xs ds, Rd H a (.lst xs) ∧ d = .list ds ∧ Paired (RV n H) xs ds) ∨ ∃ xs ds, Rd H a (.tup xs) ∧ d = .tuple ds ∧ Paired (RV n H) xs ds from h) with ⟨xs, ds, _, e, _⟩ | ⟨xs, ds, _, e, _⟩
    · exact .inl ⟨ds, e⟩
    · exact .inr ⟨ds, e⟩
theorem flat_no {x : V} {d : PyData} (h : flatD x = some d) : (∀ ds, d ≠ .list ds) ∧ ∀ ds, d ≠ .tuple ds := by
  cases x <;> simp [flatD] at h <;> subst h <;> exact ⟨fun ds e => (by cases e), fun ds e => (by cases e)⟩
theorem flat_inj {x y : V} {d : PyData} (h1 : flatD x = some d) (h2 : flatD y = some d) : x = y := by
  cases x <;> simp [flatD] at h1 <;> subst h1 <;> cases y <;> simp [flatD] at h2 <;> first | rfl | (subst h2; rfl)
theorem both_flat {n : Nat} {H : Hp} {x y : V} {d : PyData} (h1 : RV n H x d) (h2 : RV n H y d) (hx : ∀ a, x ≠ .ref a) : x = y := by
  have f1 := rv_scal h1 hx
  refine flat_inj f1 (rv_scal h2 fun b e => ?_)
  subst e
  rcases rv_ref h2 with ⟨ds, e⟩ | ⟨ds, e⟩
  · exact (flat_no f1).1 ds e
  · exact (flat_no f1).2 ds e
theorem rel_same {x : V} {u v : Value} {d : PyData} {A : Around} {s : Shared} (hf : flatD x = some d) (r1 : RelV x u) (r2 : RelV x v) : SeqAt.EqAt A s u v true := by
  cases x with
  | non => cases r1; cases r2; exact SeqAt.EqAt.same _
  | bl b => cases r1; cases r2; exact SeqAt.EqAt.same _
  | int i =>
    obtain ⟨t, rfl⟩ := r1
    obtain ⟨t', rfl⟩ := r2
    have := SeqAt.EqAt.int_int (A := A) (s := s) i t i t'
    rw [beq_self_eq_true] at this
    exact this
  | str i =>
    obtain ⟨t, rfl⟩ := r1
    obtain ⟨t', rfl⟩ := r2
    have := SeqAt.EqAt.str_str (A := A) (s := s) i t i t'
    rw [beq_self_eq_true] at this
    exact this
  | _ => cases hf
theorem rv_flat {n : Nat} {H : Hp} {x y : V} {u v : Value} {d : PyData} {A : Around} {s : Shared} (h1 : RV n H x d) (h2 : RV n H y d) (r1 : RelV x u) (r2 : RelV y v) (hx : ∀ a, x ≠ .ref a) : SeqAt.EqAt A s u v true := by
  have e := both_flat h1 h2 hx
  subst e
  exact rel_same (rv_scal h1 hx) r1 r2
theorem eqAt_rv {pins : List (Addr × Obj)} {σ : St} {H : Hp} {s : Shared} (I : Inv X pins σ H s) : ∀ (n : Nat) (A : Around), A.units + n < cLine → ∀ (x y : V) (u v : Value) (d : PyData), RV n H x d → RV n H y d → RelV x u → RelV y v → SeqAt.EqAt A s u v true := by
  intro n
  induction n with
  | zero =>
    intro A hA x y u v d h1 h2 r1 r2
    refine rv_flat h1 h2 r1 r2 fun a e => ?_
    subst e
    exact (show False from h1)
  | succ n ih =>
    intro A hA x y u v d h1 h2 r1 r2
    by_cases hx : ∃ a, x = .ref a
    · obtain ⟨a, rfl⟩ := hx
      by_cases hy : ∃ b, y = .ref b
      · obtain ⟨b, rfl⟩ := hy
        cases r1
        cases r2
        by_cases hab : a = b
        · subst hab; exact SeqAt.EqAt.same _
        have ih' := ih A.in1 (by show A.units + 1 + n < cLine; omega)
        have hu : A.units < cLine := by omega
        cases rdP_of I h1 with
        | lst p1 q1 l1 =>
          cases rdP_of I h2 with
          | lst p2 q2 l2 =>
            obtain ⟨z1, z2⟩ := seq_same (pins := pins) (σ := σ) ih' p1 p2 q1 q2
            have := SeqAt.RcAt.lists (A := A) l1 l2 z1 hu z2
            rw [all_true] at this
            exact SeqAt.EqAt.of_refs hab this
        | tup p1 q1 l1 =>
          cases rdP_of I h2 with
          | tup p2 q2 l2 =>
            obtain ⟨z1, z2⟩ := seq_same (pins := pins) (σ := σ) ih' p1 p2 q1 q2
            have := SeqAt.RcAt.tuples (A := A) l1 l2 hu z2
            rw [all_true, z1, beq_self_eq_true] at this
            exact SeqAt.EqAt.of_refs hab this
      · exact absurd ⟨a, (both_flat h2 h1 fun b e => hy ⟨b, e⟩)⟩ hy
    · exact rv_flat h1 h2 r1 r2 fun a e => hx ⟨a, e⟩
@[irreducible] def hEqR (K : PySem.W.Frag) (a b : Addr) (H : Hp) (Q : Bool → Hp → Prop) : Prop := hEqL K a b H Q ∨ ∃ n d, n ≤ 20 ∧ RV (n + 1) H (.ref a) d ∧ RV (n + 1) H (.ref b) d ∧ Q true H
theorem i_eqD {K : PySem.W.Frag} {a b : Addr} {H : Hp} {Q : Bool → Hp → Prop} {d : PyData} (n : Nat) (hn : n ≤ 20) (h1 : RV (n + 1) H (.ref a) d) (h2 : RV (n + 1) H (.ref b) d) (q : Q true H) : hEqR K a b H Q := by unfold hEqR; exact .inr ⟨n, d, hn, h1, h2, q⟩
theorem i_eqI {K : PySem.W.Frag} {a b : Addr} {H : Hp} {Q : Bool → Hp → Prop} {ns ms : List Int} (h1 : SqL K H a (ns.map V.int)) (h2 : SqL K H b (ms.map V.int)) (q : Q (decide (ns = ms)) H) : hEqR K a b H Q := by unfold hEqR; exact .inl (i_eqL h1 h2 q)
def vEqG (K : PySem.W.Frag) (n : Bool → Bool) : R2 := fun x y H Q => match x, y with
  | .int i, .int j => Q (.bl (n (decide (i = j)))) H
  | .str i, .str j => Q (.bl (n (decide (i = j)))) H
  | .bl i, .bl j => Q (.bl (n (decide (i = j)))) H
  | .non, .non => Q (.bl (n true)) H
  | .non, .int _ => Q (.bl (n false)) H
  | .int _, .non => Q (.bl (n false)) H
  | .non, .bl _ => Q (.bl (n false)) H
  | .bl _, .non => Q (.bl (n false)) H
  | .ref a, .ref b => hEqR K a b H fun r H' => Q (.bl (n r)) H'
  | _, _ => False
theorem kEqG {K : PySem.W.Frag} {k : Nat} (hK : X.K = K) (hr : Room k X.A) : OpR X (compareOp .Eq) (vEqG K id) := by
  subst hK
  intro pins s σ H x y v u Q I rx ry h
  cases x <;> cases y <;> first
    | exact (show False from h).elim
    | exact op_eq pins s σ H _ _ v u Q I rx ry ⟨rfl, by rw [dI]; exact h⟩
    | exact op_eq pins s σ H _ _ v u Q I rx ry ⟨rfl, by rw [dS]; exact h⟩
    | exact op_eq pins s σ H _ _ v u Q I rx ry ⟨rfl, by rw [dB]; exact h⟩
    | exact op_eq pins s σ H _ _ v u Q I rx ry ⟨rfl, h⟩
    | skip
  rename_i a b
  have h := (show hEqR X.K a b H _ from h)
  unfold hEqR at h
  rcases h with h | ⟨n, d, hn, h1, h2, q⟩
  · unfold hEqL at h; obtain ⟨xs, ys, h1, h2, h3⟩ := h; exact op_eqI hr pins s σ H _ _ v u Q I rx ry ⟨_, _, xs, ys, rfl, rfl, h1, h2, h3⟩
  · cases rx
    cases ry
    have hu := hr.units
    have ih := eqAt_rv I n X.A.in1 (by show X.A.units + 1 + n < cLine; omega)
    cases rdP_of I h1 with
    | lst p1 q1 l1 =>
      cases rdP_of I h2 with
      | lst p2 q2 l2 =>
        obtain ⟨z1, z2⟩ := seq_same (pins := pins) (σ := σ) ih p1 p2 q1 q2
        exact SeqAt.eq_listAt l1 l2 z1 (by omega) z2 (by rw [all_true]; exact ⟨.bl true, H, I, rfl, q⟩)
    | tup p1 q1 l1 =>
      cases rdP_of I h2 with
      | tup p2 q2 l2 =>
        obtain ⟨z1, z2⟩ := seq_same (pins := pins) (σ := σ) ih p1 p2 q1 q2
        exact SeqAt.eq_tupleAt l1 l2 (by omega) z2 (by rw [all_true, z1, beq_self_eq_true]; exact ⟨.bl true, H, I, rfl, q⟩)
theorem kNeG {K : PySem.W.Frag} {k : Nat} (hK : X.K = K) (hr : Room k X.A) : OpR X (compareOp .NotEq) (vEqG K not) := by
  subst hK
  intro pins s σ H x y v u Q I rx ry h
  cases x <;> cases y <;> first
    | exact (show False from h).elim
    | exact op_ne pins s σ H _ _ v u Q I rx ry ⟨rfl, by rw [dI]; exact h⟩
    | exact op_ne pins s σ H _ _ v u Q I rx ry ⟨rfl, by rw [dS]; exact h⟩
    | exact op_ne pins s σ H _ _ v u Q I rx ry ⟨rfl, by rw [dB]; exact h⟩
    | exact op_ne pins s σ H _ _ v u Q I rx ry ⟨rfl, h⟩
    | skip
  rename_i a b
  have h := (show hEqR X.K a b H _ from h)
  unfold hEqR at h
  have hu := hr.units
  rcases h with h | ⟨n, d, hn, h1, h2, q⟩
  · unfold hEqL at h
    obtain ⟨ns, ms, h1, h2, qq⟩ := h
    cases rx; cases ry
    obtain ⟨its, r1, p1, _⟩ := I.list h1
    obtain ⟨its2, r2, p2, _⟩ := I.list h2
    have i1 := intsAre_of r1
    have i2 := intsAre_of r2
    have l1 := r1.length
    have l2 := r2.length
    rw [List.length_map] at l1 l2
    by_cases hl : ns.length = ms.length
    · refine SeqAt.RcNeAt.lists (e := fun j => decide (ns.getD j 0 = ms.getD j 0)) p1.isList p2.isList (by simp only [List.size_toArray]; omega) hr.units0 (fun j a1 a2 => ?_) _ _ _ _ ?_
      · obtain ⟨t1, e1⟩ := ints_at i1 j a1
        obtain ⟨t2, e2⟩ := ints_at i2 j a2
        rw [e1, e2]
        have := SeqAt.EqAt.int_int (A := X.A.in1) (s := s) (ns.getD j 0) t1 (ms.getD j 0) t2
        rw [Bool.beq_eq_decide_eq] at this
        exact this
      · rw [show its.toArray.size = ns.length by simp only [List.size_toArray]; omega, all_range_eq ns ms hl]
        exact ⟨.bl _, H, I, rfl, qq⟩
    · refine SeqAt.RcNeAt.lists_lengths p1.isList p2.isList (by simp only [List.size_toArray, bne_iff_ne]; omega) hr.units0 _ _ _ _ ⟨.bl true, H, I, rfl, ?_⟩
      have : decide (ns = ms) = false := decide_eq_false fun e => hl (by rw [e])
      rw [this] at qq
      exact qq
  · cases rx
    cases ry
    have ih := eqAt_rv I n X.A.in1 (by show X.A.units + 1 + n < cLine; omega)
    cases rdP_of I h1 with
    | lst p1 q1 l1 =>
      cases rdP_of I h2 with
      | lst p2 q2 l2 =>
        obtain ⟨z1, z2⟩ := seq_same (pins := pins) (σ := σ) ih p1 p2 q1 q2
        exact SeqAt.RcNeAt.lists l1 l2 z1 (by omega) z2 _ _ _ _ (by rw [all_true]; exact ⟨.bl false, H, I, rfl, q⟩)
    | tup p1 q1 l1 =>
      cases rdP_of I h2 with
      | tup p2 q2 l2 =>
        obtain ⟨z1, z2⟩ := seq_same (pins := pins) (σ := σ) ih p1 p2 q1 q2
        exact SeqAt.RcNeAt.tuples l1 l2 (by omega) z2 _ _ _ _ (by rw [all_true, z1, beq_self_eq_true]; exact ⟨.bl false, H, I, rfl, q⟩)
end
end L2

set_option linter.all false
set_option Elab.async false
set_option maxRecDepth 100000
set_option maxHeartbeats 4000000
namespace L2
open PySem PySem.Spec PyProof.Rows
/-! ### range as a value, list(range(..)) -/
section
variable {X : Cx}
end
end L2

set_option linter.all false
set_option Elab.async false
set_option maxRecDepth 100000
set_option maxHeartbeats 4000000
namespace L2
open PySem PySem.Spec PyProof.Rows
/-! ### xs[::-1] -/
section
variable {X : Cx} {e st : Expr} {te : TE} {ts : TO} {p2 pos : Pos} {K : PySem.W.Frag}
end
end L2

set_option linter.all false
set_option Elab.async false
set_option maxRecDepth 100000
set_option maxHeartbeats 4000000
namespace L2
open PySem PySem.Spec PyProof.Rows
/-! ### a = b = e; names unpacked out of a list -/
section
variable {X : Cx} {K : PySem.W.Frag} {e t1 t2 : Expr} {es : List Expr} {te : TE} {pos p p2 : Pos}
def mTwo (te : TE) (g1 g2 : TG) : TS := fun D σ H => te σ H fun x H1 => g1 x σ H1 fun σ1 H2 => g2 x σ1 H2 D.nx
theorem qs_two {g1 g2 : TG} (he : QE X e te) (h1 : QG X t1 g1) (h2 : QG X t2 g2) (hw : swappedStores [t1, t2] e X.env = pure none := by rfl) (hp1 : plainG t1 = true := by rfl) (hp2 : plainG t2 = true := by rfl) : QS X (.Assign [t1, t2] e pos) (mTwo te g1 g2) := ⟨by
  intro pins s σ H D I h
  refine wpAny_Assign_two (thn (he.h pins s σ H _ I h) fun v s1 ⟨x, H1, I1, r1, q1⟩ => ?_) (by rw [assign_plain hp1, assign_plain hp2]; rfl) hw
  refine thn (h1.h pins s1 σ H1 x v _ I1 r1 q1) fun _ s2 ⟨σ2, H2, I2, q2⟩ => ?_
  exact thn (h2.h pins s2 σ2 H2 x v _ I2 r1 q2) fun _ s3 q => q⟩
end
end L2

set_option linter.all false
set_option Elab.async false
set_option maxRecDepth 100000
set_option maxHeartbeats 4000000
namespace L2
open PySem PySem.Spec PyProof.Rows
/-! ### xs.pop(i), abs -/
section
variable {X : Cx}
end
end L2

set_option linter.all false
set_option Elab.async false
set_option maxRecDepth 100000
set_option maxHeartbeats 4000000
namespace L2
open PySem PySem.Spec PyProof.Rows
/-! ### own classes: fields, methods, making; xs[a:b] = ys; pop(), extend; a number kept by a name of the module -/
section
variable {X : Cx} {K : PySem.W.Frag} {e o value : Expr} {es : List Expr} {te ta tv to : TE} {t : TA} {pos p p2 pos' apos : Pos} {f m x : Str} {C : Addr}
/-- a method of the class at C -/
structure Mth (P : Program) (w : World) (K : PySem.W.Frag) (mg : Str → Option Value) (base : Heap) (k : Nat) (C : Addr) (m : Str) (ps : List Str) (sp : Sp) : Prop where
  cl : Cls K C
  ex : ∃ f fd, FnOk P w K mg base CX0 k f fd ps sp ∧ Binds K fd ps [] ∧ Meth K C m f
/-- a class that can be made, by its __init__ -/
structure Mkd (P : Program) (w : World) (K : PySem.W.Frag) (mg : Str → Option Value) (base : Heap) (k : Nat) (C : Addr) (x : Str) (ps : List Str) (sp : Sp) : Prop where
  ex : ∃ f fd, FnOk P w K mg base CX0 k f fd ps sp ∧ Binds K fd ps [] ∧ Mk K C f ∧ mg x = some (.ref C)
/-- a number kept by a name of the module -/
structure KNum (mg : Str → Option Value) (x : Str) (n : Int) : Prop where
  ex : ∃ t, mg x = some (.int n t)
/-! xs[a:b] = ys -/
/-! xs.pop(), xs.extend(ys) -/
/-! == and != with an empty list -/
end
end L2

set_option linter.all false
set_option Elab.async false
namespace L2
open PySem
section
variable {X : Cx} {K : PySem.W.Frag}
end
end L2

set_option linter.all false
set_option Elab.async false
set_option maxRecDepth 100000
set_option maxHeartbeats 4000000
namespace L2
open PySem PySem.Spec PyProof.Rows
/-! ### texts: str(n), len, index, for over a text, not in, int, join, split; None in a list of numbers; a text kept by a name of the module -/
/-- a number's text -/
def nt (n : Int) : Str := Str.ofString (toString n)
section
variable {X : Cx} {K : PySem.W.Frag} {a b e : Expr} {ta tb te : TE} {pos p p2 : Pos} {x : Str}
def vStr : List V → Hp → VK → Prop := fun xs H Q => match xs with
  | [.int i] => i.natAbs < 10 ^ 40 ∧ Q (.str (nt i)) H
  | _ => False
theorem callStr : CallR X (.type "str") vStr := call_str_int.imp fun xs H Q h => by
  unfold vStr at h; split at h
  · exact ⟨_, rfl, log2_of h.1, h.2⟩
  · exact h.elim
/-! join -/
/-! split -/
/-! a text kept by a name of the module -/
structure KTxt (mg : Str → Option Value) (x : Str) (z : Str) : Prop where
  ex : ∃ t, mg x = some (.str z t)
end
/-! for over a text -/
section
variable {X : Cx} {tg e : Expr} {te : TE}
end
end L2

set_option linter.all false
set_option Elab.async false
set_option maxRecDepth 100000
set_option maxHeartbeats 4000000
namespace L2
open PySem PySem.Spec PyProof.Rows
/-! ### exceptions: raise, and how one passes the frames -/
theorem ObjOk.has {P : Program} {w : World} {H : Hp} {h : Heap} {a : Addr} {o : HO} (x : ObjOk P w H h a o) : ∃ ob, h.get? a = some ob := by
  cases o with
  | lst xs => obtain ⟨_, _, _, _, e⟩ := x; exact ⟨_, e⟩
  | tup xs => obtain ⟨_, _, _, ob, e, _⟩ := x; exact ⟨_, e⟩
  | dK kvs => obtain ⟨_, _, _, _, o, _, _, e, _⟩ := x; exact ⟨_, e⟩
  | dT kvs => obtain ⟨_, _, _, _, o, _, _, e, _⟩ := x; exact ⟨_, e⟩
  | set S n => obtain ⟨o, _, _, _, e, _⟩ := x; exact ⟨_, e⟩
  | ins C dx fs => obtain ⟨_, _, _, e, _⟩ := x; exact ⟨_, e⟩
  | own y => obtain ⟨_, e⟩ := x; exact ⟨_, e⟩
  | xd fs => obtain ⟨_, ⟨_, _, _, e, _⟩, _⟩ := x; exact ⟨_, e⟩
  | rng lo hi => obtain ⟨_, _, _, e⟩ := x; exact ⟨_, e⟩
  | frz ob u => obtain ⟨e, _⟩ := x; exact ⟨_, e⟩
  | tbl ps => exact ⟨_, show h.get? a = some _ from x⟩
  | met f y => exact ⟨_, show h.get? a = some _ from x⟩
  | ext φ => obtain ⟨_, ⟨_, e⟩, _⟩ := x; exact ⟨_, e⟩
/-- an exception flies behind a call: the frames l are still to be passed; all that stands and is no frame is within B, which stays -/
structure Flies (P : Program) (w : World) (l : List Env) (H : Hp) (h0 : Heap) (e : Addr) (cls : Value) (H' : Hp) (h : Heap) : Prop where
  un : Un (frs l) [] H H' h0 h
  hok : HOk P w H' h
  ex : ∃ B t, Heap.FlyingW B l e cls (.ref t) h ∧ (∀ b o, H' b ≠ none → h.get? b = some o → B.get? b = some o) ∧ (∀ b o, h0.get? b = some o → H b = none → b ∉ frs l → B.get? b = some o) ∧
    ∀ b o, h0.get? b = some o → b ∉ frs l → ∃ o', B.get? b = some o'
  en : H' e = none
  new : h0.get? e = none
def CXe (P : Program) (w : World) : CXT := fun l H s E ev s' => ∃ (e : Addr) (cls : Value) (H' : Hp), ev = .ref e ∧ s'.os = s.os ∧ AllBare s'.gens ∧ Flies P w l H s.heap e cls H' s'.heap ∧ E cls none H'
section
variable {P : Program} {w : World} {K : PySem.W.Frag} {mg : Str → Option Value} {base : Heap} {N : List Str} {qual : Str} {scope : Scope} {f : Addr} {cd : Value} {A : Around} {outer : List Env} {s0 : Shared} {H0 : Hp} {E : XK}
/-- a body from which exceptions go out, as E wants them -/
abbrev cxE (P : Program) (w : World) (K : PySem.W.Frag) (mg : Str → Option Value) (base : Heap) (N : List Str) (qual : Str) (scope : Scope) (f : Addr) (cd : Value) (A : Around) (outer : List Env) (s0 : Shared) (H0 : Hp) (E : XK) : Cx := cxOf (CXe P w) P w K mg base N qual scope f cd A outer s0 H0 E
/-- an exception made here goes out -/
def Raises (X : Cx) (E : XK) : Prop := ∀ (pins : List (Addr × Obj)) (σ : St) (H : Hp) (s : Shared) (C e : Addr) (vs : List Value) (h' : Heap), Inv X pins σ H s → Heap.MadeExcOf s.heap h' e (.ref C) vs → E (.ref C) none H → X.xe (.ref e) { s with heap := h' }
theorem frs_cons {env : Env} {l : List Env} {L : Addr} (hf : env.frame = some L) {b : Addr} (h : b ∈ frs (env :: l)) : b = L ∨ b ∈ frs l := by
  unfold frs at h
  rw [List.filterMap_cons, hf] at h
  exact List.mem_cons.mp h
theorem frs_sub {env : Env} {l : List Env} {b : Addr} (h : b ∈ frs l) : b ∈ frs (env :: l) := by
  obtain ⟨v, hv, e⟩ := List.mem_filterMap.mp h
  exact List.mem_filterMap.mpr ⟨v, List.mem_cons_of_mem _ hv, e⟩
theorem raises_cxE : Raises (cxE P w K mg base N qual scope f cd A outer s0 H0 E) E := by
  intro pins σ H s C e vs h' I hx hE
  let env := envOfC qual scope s0.heap.objs.size f cd
  have hfr : (A.deeper env).frames = some (env :: outer) := I.ok.frames
  have hstk : s.heap.FunFrames base (env :: outer) := I.stack
  have hin : ∀ v ∈ env :: outer, ∀ b, v.frame = some b → b ∈ frs (env :: outer) := fun v hv b hb => List.mem_filterMap.mpr ⟨v, hv, hb⟩
  have hL : env.frame = some s0.heap.objs.size := rfl
  show wpAny (model P w) (A.deeper env) (leaving env (.ref e)) _ _ _
  refine wpAny_leaves_madeW (base := PySem.W.hideAll s.heap (frs (env :: outer))) (h := s.heap) hfr hL (fun b o q => PySem.W.of_hideAll _ q) (PySem.W.funFrames_hide hstk hin) hx fun h2 t x1 x2 x3 x4 => ?_
  have inB : ∀ b o, s.heap.get? b = some o → b ∉ frs (env :: outer) → (PySem.W.hideAll s.heap (frs (env :: outer))).get? b = some o := fun b o q n => PySem.W.hideAll_get _ q n
  have ups : s.heap.UpToSlots h2 := (Heap.UpToSlots.of_keeps hx.keeps).trans x4
  have nfr : ∀ b, H b ≠ none → b ∉ frs (env :: outer) := fun b n m => n (I.stkFree b m)
  have old : ∀ b o, s0.heap.get? b = some o → b ∉ frs outer → b ∉ frs (env :: outer) := fun b o q n m => by
    rcases frs_cons hL m with e | m
    · exact absurd (Heap.lt_size q) (by rw [e]; exact Nat.lt_irrefl _)
    · exact n m
  have slotB : ∀ b o, s.heap.get? b = some o → b ∈ frs (env :: outer) → ∃ sl, h2.get? b = some { o with slots := sl } := fun b o q m => by
    obtain ⟨_, o', q', d⟩ := hstk.mem m
    rw [q] at q'; cases q'
    exact ups b o q d
  have hbase := I.base
  refine ⟨e, .ref C, H, rfl, I.os, I.bare, ⟨⟨?_, ?_, ?_, ?_, hbase.tups, hbase.frzs, hbase.tbls⟩, ?_, ⟨_, t, x1, ?_, ?_, ?_⟩, ?_, ?_⟩, hE⟩
  · exact fun b o q n hb he => x1.1 _ _ (inB b o (hbase.keep b o q n hb he) (old b o q hb))
  · intro b o q n hb he
    obtain ⟨sl, e1⟩ := hbase.slot b o q n hb he
    obtain ⟨sl', e2⟩ := slotB b _ e1 (frs_sub hb)
    exact ⟨sl', e2⟩
  · exact hbase.free
  · intro b o q he
    obtain ⟨o', e1⟩ := hbase.there b o q he
    by_cases m : b ∈ frs (env :: outer)
    · obtain ⟨sl, e2⟩ := slotB b _ e1 m; exact ⟨_, e2⟩
    · exact ⟨_, x1.1 _ _ (inB b _ e1 m)⟩
  · intro a o q
    refine (I.hok a o q).stay (fun b u hb q2 => x1.1 _ _ (inB b u q2 (nfr b ?_))) (fun _ z => z) (fun _ _ z => z)
    rcases hb with rfl | hb
    · rw [q]; exact fun z => nomatch z
    · rw [hb]; exact fun z => nomatch z
  · intro b o n q
    cases hb : H b with
    | none => exact absurd hb n
    | some u =>
      obtain ⟨ob, e1⟩ := (I.hok b u hb).has
      have e2 := inB b ob e1 (nfr b n)
      have e3 := x1.1 _ _ e2
      rw [q] at e3; cases e3
      exact e2
  · exact fun b o q n hb => inB b o (hbase.keep b o q n hb (fun z => nomatch z)) (old b o q hb)
  · intro b o q hb
    obtain ⟨o', e1⟩ := hbase.there b o q (fun z => nomatch z)
    exact ⟨o', inB b o' e1 (old b o q hb)⟩
  · cases hb : H e with
    | none => rfl
    | some u =>
      obtain ⟨ob, e1⟩ := (I.hok e u hb).has
      rw [hx.new] at e1; cases e1
  · cases q : s0.heap.get? e with
    | none => rfl
    | some o =>
      obtain ⟨o', e1⟩ := hbase.there e o q (fun z => nomatch z)
      rw [hx.new] at e1; cases e1
theorem passes_cxE : Passes (CXe P w) (cxE P w K mg base N qual scope f cd A outer s0 H0 E) E := by
  rintro pins σ H s ev s' I ⟨e, cls, H', rfl, os, bare, ⟨un, hok, ⟨B, t, fly, c1, c2, c3⟩, en, new⟩, hE⟩
  let env := envOfC qual scope s0.heap.objs.size f cd
  have hfr : (A.deeper env).frames = some (env :: outer) := I.ok.frames
  have hL : env.frame = some s0.heap.objs.size := rfl
  have hstk : s.heap.FunFrames base (env :: outer) := I.stack
  have fly : Heap.FlyingW B (env :: outer) e cls (.ref t) s'.heap := fly
  show wpAny (model P w) (A.deeper env) (leaving env (.ref e)) _ _ _
  refine wpAny_leaves_onW hfr hL fly fun h2 f1 f2 => ?_
  have old : ∀ b o, s0.heap.get? b = some o → b ∉ frs outer → b ∉ frs (env :: outer) := fun b o q n m => by
    rcases frs_cons hL m with e | m
    · exact absurd (Heap.lt_size q) (by rw [e]; exact Nat.lt_irrefl _)
    · exact n m
  have hbase := I.base
  have slotB : ∀ b o, s0.heap.get? b = some o → H0 b = none → b ∈ frs outer → ∃ sl, h2.get? b = some { o with slots := sl } := fun b o q n m => by
    obtain ⟨sl, e1⟩ := hbase.slot b o q n m (fun z => nomatch z)
    obtain ⟨sl', e2⟩ := un.slot b _ e1 (hbase.free b o q n (fun z => nomatch z)) (frs_sub m) (fun z => nomatch z)
    obtain ⟨_, o', q', d⟩ := hstk.mem (frs_sub (env := env) m)
    rw [e1] at q'; cases q'
    obtain ⟨sl2, e3⟩ := f2 b _ e2 d
    exact ⟨sl2, e3⟩
  refine ⟨e, cls, H', rfl, os.trans I.os, bare, ⟨⟨?_, ?_, ?_, ?_, ?_, ?_, ?_⟩, ?_, ⟨B, t, f1, ?_, ?_, ?_⟩, en, ?_⟩, hE⟩
  · exact fun b o q n hb he => f1.1 _ _ (c2 b o (hbase.keep b o q n hb he) (hbase.free b o q n he) (old b o q hb))
  · exact fun b o q n hb he => slotB b o q n hb
  · intro b o q n he
    obtain ⟨o', e1⟩ := hbase.there b o q he
    exact un.free b o' e1 (hbase.free b o q n he) (fun z => nomatch z)
  · intro b o q he
    by_cases m : b ∈ frs outer
    · obtain ⟨sl, e2⟩ := slotB b o q (I.ok.frf b m) m; exact ⟨_, e2⟩
    · obtain ⟨o', e1⟩ := hbase.there b o q he
      obtain ⟨o2, e2⟩ := c3 b o' e1 (old b o q m)
      exact ⟨o2, f1.1 _ _ e2⟩
  · exact fun b xs q => un.tups b xs (hbase.tups b xs q)
  · exact fun b o u q => un.frzs b o u (hbase.frzs b o u q)
  · intro b ps q
    obtain ⟨m1, e1⟩ := hbase.tbls b ps q
    obtain ⟨m2, e2⟩ := un.tbls b _ e1
    exact ⟨m1 ++ m2, by rw [e2, Array.append_assoc]⟩
  · intro a o q
    refine (hok a o q).stay (fun b u hb q2 => f1.1 _ _ (c1 b u ?_ q2)) (fun _ z => z) (fun _ _ z => z)
    rcases hb with rfl | hb
    · rw [q]; exact fun z => nomatch z
    · rw [hb]; exact fun z => nomatch z
  · intro b o n q
    cases hb : H' b with
    | none => exact absurd hb n
    | some u =>
      obtain ⟨ob, e1⟩ := (hok b u hb).has
      have e2 := c1 b ob n e1
      have e3 := f1.1 _ _ e2
      rw [q] at e3; cases e3
      exact e2
  · exact fun b o q n hb => c2 b o (hbase.keep b o q n hb (fun z => nomatch z)) (hbase.free b o q n (fun z => nomatch z)) (old b o q hb)
  · intro b o q hb
    obtain ⟨o', e1⟩ := hbase.there b o q (fun z => nomatch z)
    exact c3 b o' e1 (old b o q hb)
  · cases q : s0.heap.get? e with
    | none => rfl
    | some o =>
      obtain ⟨o', e1⟩ := hbase.there e o q (fun z => nomatch z)
      rw [new] at e1; cases e1
end
end L2

set_option linter.all false
set_option Elab.async false
set_option maxRecDepth 100000
set_option maxHeartbeats 4000000
namespace L2
open PySem PySem.Spec PyProof.Rows
/-! ### raise C(text) of a class of one's own under ValueError; defs from which exceptions go out -/
abbrev bmV : List Value := [.type "ValueError", .type "Exception", .type "BaseException", .type "object"]
/-- a class of one's own under ValueError, by the written part -/
structure ExC (K : PySem.W.Frag) (mg : Str → Option Value) (x : Str) (C : Addr) : Prop where
  bound : mg x = some (.ref C)
  cls : PySem.W.excIn K C bmV "ValueError.__new__" = true
def OwnAt (h : Heap) (C : Addr) : Prop := ∃ (bm : List Value) (N : Addr) (nm qn : Str) (bs : List Value) (hd : Bool) (sn : List Str) (sub : List Value) (ab : Bool) (col : Option Bool) (dd : Option Addr) (a0 a1 a2 a3 a5 : Option Value) (mN : Str → Option Value),
  h.get? C = some (excClassObj nm qn C N bs bm hd sn sub ab col dd a0 a1 a2 a3 a5 "ValueError.__new__") ∧ h.Ns N mN ∧ mN "__init__" = none ∧ OwnTail h bmV bm
theorem own_at {K : PySem.W.Frag} {h : Heap} {C : Addr} (hK : K.In h) (hc : PySem.W.excIn K C bmV "ValueError.__new__" = true) : OwnAt h C := by
  unfold PySem.W.excIn at hc
  cases hl : K.lookup C with
  | none => rw [hl] at hc; cases hc
  | some ob =>
    rw [hl] at hc
    have hob := hK _ _ hl
    split at hc
    · rename_i heq
      cases heq
      split at hc
      · rename_i hmro hslots
        simp only [Bool.and_eq_true, beq_iff_eq, Bool.not_eq_true'] at hc
        obtain ⟨⟨⟨⟨⟨z1, z2⟩, z3⟩, z4⟩, z5⟩, z6⟩ := hc
        subst z1
        subst z2
        rename ClassData => cdt
        rename Array (Option Value) => slots
        cases cdt
        cases slots
        dsimp only at hmro hslots z3 z5 z6
        subst hmro
        subst z3
        subst hslots
        exact ⟨_, _, _, _, _, _, _, _, _, _, _, _, _, _, _, _, _, hob, .of_isNs (PySem.W.isNs_of_in hK z5), PySem.W.nsMap_none_of_in hK z5 z6, PySem.W.tail_of_in hK z4⟩
      · cases hc
    · cases hc
def mRaise (C : Addr) (t : TA) (E : XK) : TS := fun D σ H => t σ H fun vs H1 => vs.length ≤ 100 ∧ E (.ref C) none H1
section
variable {X : Cx} {e : Expr} {es : List Expr} {t : TA} {x : Str} {C : Addr} {np cpos pos p : Pos} {E : XK}
theorem qs_raise (hr : Raises X E) (hcalm : X.calm = true) (hg : Gl X x) (hx : ExC X.K X.mg x C) (ha : QA X (e :: es) t) (hd : (x == ("__debug__" : Str)) = false := by decide) :
    QS X (.Raise (some (.Call (.Name x np) (e :: es) [] cpos)) none pos) (mRaise C t E) := ⟨by
  intro pins s σ H D I h
  obtain ⟨bm, N, nm, qn, bs, hdd, sn, sub, ab, col, dd, a0, a1, a2, a3, a5, mN, hC, hN, hni, T⟩ := own_at I.ok.mod.kin hx.cls
  have hp := ha.p
  rw [List.all_cons, Bool.and_eq_true] at hp
  have he := star_plain (env := X.env) (es := es) hp.1
  have hpl : (backTo cpos (starEach (e :: es) X.env)).any (·.1) = false := by rw [he]; show (false || (backTo cpos (starEach es X.env)).any (·.1)) = false; rw [any_plain hp.2]; rfl
  refine wpAny_Raise_call_subT (C := C) (nm := nm) (q := qn) (N := N) (bs := bs) (bm := bm) (hdct := hdd) (sn := sn) (sub := sub) (ab := ab) (col := col) (dd := dd) (k0 := a0) (k1 := a1) (k2 := a2) (k3 := a3) (k5 := a5)
    PySem.F.excBase_ValueError (mN := mN) (T.hasType PySem.F.excBase_ValueError.hasBase) (I.ok.hd hcalm) hpl hni (ld_glob I hg hx.bound ⟨rfl, ?_⟩ hd)
  have ht := ha.h cpos pins s σ H _ I h
  rw [he] at ht ⊢
  refine Calls.evalArgs_plain (thn ht fun us s1 ⟨vs, H1, I1, rv, z, q⟩ => ?_)
  have hl := rv.length
  exact ⟨rfl, sz_of (by show us.length ≤ 100000; omega), I1.bk _ _ hC, hN.keeps I1.bk, T.keeps I1.bk, fun h' e' made => hr pins σ H1 s1 C e' us h' I1 made q⟩⟩
end
/-- a def from which exceptions may go out -/
structure DefX (P : Program) (w : World) (K : PySem.W.Frag) (mg : Str → Option Value) (base : Heap) (k : Nat) (x : Str) (ps : List Str) (sp : Sp) : Prop where
  ex : ∃ f fd, FnOk P w K mg base (CXe P w) k f fd ps sp ∧ Binds K fd ps [] ∧ PySem.W.keepIn K (.ref f) = true ∧ mg x = some (.ref f)
theorem qe_defX {X : Cx} {k j : Nat} {x : Str} {ps : List Str} {sp : Sp} {e : Expr} {es : List Expr} {t : TA} {p pos : Pos} {E : XK} (D : DefX X.prog X.w X.K X.mg X.base k x ps sp) (hx : Passes (CXe X.prog X.w) X E) (hr : Room j X.A) (hj : k ≤ j) (hg : Gl X x) (ha : QA X (e :: es) t)
    (hdb : (x == ("__debug__" : Str)) = false := by decide) : QE X (.Call (.Name x p) (e :: es) [] pos) (tCall sp [] E t) := ⟨by
  obtain ⟨f, fd, F, b, kp, m⟩ := D.ex
  have hp := ha.p
  rw [List.all_cons, Bool.and_eq_true] at hp
  exact pe_call F (hr.mono hj) hg m kp b .nil hx ha.h (hdb := hdb) (he := star_plain hp.1) (hpl := any_plain hp.2)⟩
theorem Fun.okx {P : Program} {w : World} {K : PySem.W.Frag} {mg : Str → Option Value} {base : Heap} {x qual : Str} {st : Stmt} {f : Addr} {fd : FuncData} {N ps : List Str} {k : Nat} {sp : Sp} (F : Fun K x qual st f fd) (S : FnScope N ps (defScope st)) (len : ∀ vs H Q E, sp vs H Q E → vs.length = ps.length)
    (hbody : ∀ (cdv : Value) (A : Around) (outer : List Env) (s : Shared) (H : Hp) (vs : List V) (Q : VK) (E : XK), Room k (A.deeper (envOfC qual (defScope st) s.heap.objs.size f cdv)) → sp vs H Q E →
      ∃ T : { t : TS // QB (cxE P w K mg base N qual (defScope st) f cdv A outer s H E) (defBody st) t }, T.1 { nx := fun _ H' => Q .non H', rt := Q } (start N vs) H) : FnOk P w K mg base (CXe P w) (k + 1) f fd ps sp := by
  obtain ⟨oc, od, kV, doc, pm, an, cdv, ct, osl, rfl, lk, hcd⟩ := F.ex
  refine fn_of lk hcd S len fun A outer s H vs Q E hr hsp => ?_
  obtain ⟨T, q⟩ := hbody cdv A outer s H vs Q E hr hsp
  exact ⟨T.1, T.2.h, q⟩
end L2

set_option linter.all false
set_option Elab.async false
set_option maxRecDepth 100000
set_option maxHeartbeats 4000000
namespace L2
open PySem PySem.Spec PyProof.Rows
/-! ### an exception caught -/
/-- an exception, known by its class -/
def exo (cls : Value) (e : Addr) : HO := .ext fun h => ∃ ob, h.get? e = some ob ∧ ob.cls = cls
/-- within an except suite -/
abbrev Cx.caught (X : Cx) (e : Addr) : Cx := { X with A := X.A.mark (some (.ref e)), calm := false, xe := fun _ _ => False }
section
variable {X : Cx} {pins : List (Addr × Obj)} {σ : St} {H H' : Hp} {s s' : Shared} {e : Addr} {cls : Value}
theorem Cx.Ok.caught (ok : X.Ok) (e : Addr) : (X.caught e).Ok :=
  ⟨ok.mod, ok.kind, ok.glob, ok.blt, ok.above, ok.inj, ok.has, ok.cab, (fun z => by cases z), ok.frames, ok.stk, ok.exf, ok.bs, ok.bsz, ok.noex, ok.exfs, ok.funs, ok.frf⟩
theorem Inv.caught (I : Inv X pins σ H s) (e : Addr) : Inv (X.caught e) pins σ H s := ⟨I.ok.caught e, I.os, I.bare, I.base, I.loc, I.cell, I.free, I.freeC, I.pin, I.hok, I.len⟩
theorem Inv.uncaught (I : Inv (X.caught e) pins σ H s) (ok : X.Ok) : Inv X pins σ H s := ⟨ok, I.os, I.bare, I.base, I.loc, I.cell, I.free, I.freeC, I.pin, I.hok, I.len⟩
/-- behind the call that let an exception out: the state, the exception told of by its class -/
theorem landed {B : Heap} {t : Addr} {h2 : Heap} {tk : Nat} (I : Inv X pins σ H s) (os : s'.os = s.os) (bare : AllBare s'.gens) (un : Un (frs X.stack) [] H H' s.heap s'.heap) (hok : HOk X.prog X.w H' s'.heap)
    (c1 : ∀ b o, H' b ≠ none → s'.heap.get? b = some o → B.get? b = some o) (c2 : ∀ b o, s.heap.get? b = some o → H b = none → b ∉ frs X.stack → B.get? b = some o)
    (c3 : ∀ b o, s.heap.get? b = some o → b ∉ frs X.stack → ∃ o', B.get? b = some o') (en : H' e = none) (new : s.heap.get? e = none) (fly : Heap.FlyingW B X.stack e cls (.ref t) h2) (ups : s'.heap.UpToSlots h2) :
    Inv X pins σ (upd H' e (exo cls e)) { s' with heap := h2, toks := tk } := by
  have slotB : ∀ b o, s.heap.get? b = some o → b ∈ frs X.stack → ∃ sl, h2.get? b = some { o with slots := sl } := fun b o q m => by
    obtain ⟨sl, e2⟩ := un.slot b o q (I.stkFree b m) m (fun z => nomatch z)
    obtain ⟨_, o', q', d⟩ := I.stack.mem m
    rw [q] at q'; cases q'
    obtain ⟨sl2, e3⟩ := ups b _ e2 d
    exact ⟨sl2, e3⟩
  have ne : ∀ b u, H' b = some u → b ≠ e := fun b u q z => by subst z; rw [en] at q; cases q
  refine I.call' (s' := { s' with heap := h2, toks := tk }) (ch := []) os ⟨?_, ?_, ?_, ?_, ?_, ?_, ?_⟩ ?_ bare (fun _ z => nomatch z)
  · exact fun b o q n hb he => fly.1 _ _ (c2 b o q n hb)
  · exact fun b o q n hb he => slotB b o q hb
  · intro b o q n he
    rw [upd_ne (fun z => by subst z; rw [new] at q; cases q)]
    exact un.free b o q n he
  · intro b o q he
    by_cases m : b ∈ frs X.stack
    · obtain ⟨sl, e2⟩ := slotB b o q m; exact ⟨_, e2⟩
    · obtain ⟨o2, e2⟩ := c3 b o q m; exact ⟨o2, fly.1 _ _ e2⟩
  · intro b xs q
    have := un.tups b xs q
    rw [upd_ne (ne b _ this)]; exact this
  · intro b o u q
    have := un.frzs b o u q
    rw [upd_ne (ne b _ this)]; exact this
  · intro b ps q
    obtain ⟨m, e2⟩ := un.tbls b ps q
    exact ⟨m, by rw [upd_ne (ne b _ e2)]; exact e2⟩
  · intro a o q
    by_cases ha : a = e
    · subst ha
      rw [upd_same] at q; cases q
      obtain ⟨ob, e1, e2⟩ := fly.there
      exact ⟨⟨ob, e1, e2⟩, ⟨ob, e1⟩, fun h1 h2 ⟨ob, x1, x2⟩ k => ⟨ob, k _ x1, x2⟩⟩
    · rw [upd_ne ha] at q
      refine (hok a o q).stay (fun b u hb q2 => fly.1 _ _ (c1 b u ?_ q2)) (fun b z => by rw [upd_ne (ne b _ z)]; exact z) (fun b _ z => by rw [upd_ne (ne b _ z)]; exact z)
      rcases hb with rfl | hb
      · rw [q]; exact fun z => nomatch z
      · rw [hb]; exact fun z => nomatch z
/-- a name goes -/
theorem gone_ok {M : Model} {A : Around} {E : Value → Shared → Prop} {i : Nat} {x : Str} {pos : Pos} {Q : Unit → Shared → Prop} (I : Inv X pins σ H s) (hN : X.N.Nodup) (hi : X.N[i]? = some x) (hk : X.env.kindOf x = some .local)
    (h : ∀ s', Inv X pins (σ.set i none) H s' → Q () s') : wpAny M A (do bindName X.env x .none; unbindBehindTheSuite X.env x pos) Q E s := by
  obtain ⟨m, hn, hl⟩ := id I.loc
  have hcls : (X.env.scope.kind == .class || (X.env.scope.kind == .module && X.env.locals != X.env.globals)) = false := by rw [I.ok.kind]; rfl
  refine wpAny_nameGoes_keeps hk hn hcls fun h2 v2 hn2 hs => ?_
  obtain ⟨oL, _, _, hoL, _⟩ := id hn
  have young : ∀ b o, X.s₀.heap.get? b = some o → b ≠ X.env.locals := fun b o q => Nat.ne_of_lt (Nat.lt_of_lt_of_le (Heap.lt_size q) I.ok.above)
  refine h _ ⟨I.ok, I.os, I.bare, ⟨fun b o q n hb hx => (hs.2 b (young b o q)).trans (I.base.keep b o q n hb hx), fun b o q n hb hx => ?_, I.base.free, fun b o q hx => ?_, I.base.tups, I.base.frzs, I.base.tbls⟩,
    ⟨_, hn2, fun j y v q1 q2 q3 => ?_⟩, fun y c q => ?_, I.free, I.freeC, fun p hp => ?_, fun b ob q => ?_, by rw [List.length_set]; exact I.len⟩
  · obtain ⟨sl, e1⟩ := I.base.slot b o q n hb hx
    exact ⟨sl, (hs.2 b (young b o q)).trans e1⟩
  · obtain ⟨o', e1⟩ := I.base.there b o q hx
    exact ⟨o', (hs.2 b (young b o q)).trans e1⟩
  · by_cases hj : j = i
    · subst hj
      have hlt : j < σ.length := by rw [I.len]; exact (List.getElem?_eq_some_iff.mp q1).1
      rw [List.getElem?_set_self hlt] at q2
      cases q2
    · rw [List.getElem?_set_ne (Ne.symm hj)] at q2
      obtain ⟨u, r, z⟩ := hl j y v q1 q2 q3
      refine ⟨u, r, ?_⟩
      rcases z with ⟨k, z⟩ | ⟨k, c, z1, z2⟩
      · have hne : y ≠ x := fun z => hj (nodup_ix hN q1 (z ▸ hi))
        exact .inl ⟨k, by show (if y = x then v2 else m y) = some u; rw [if_neg hne]; exact z⟩
      · exact .inr ⟨k, c, z1, z2.sameBut hs (I.cne y c z1)⟩
  · obtain ⟨v, z⟩ := I.cell y c q
    exact ⟨v, z.sameBut hs (I.cne y c q)⟩
  · obtain ⟨z1, z2, z3, z4, z5⟩ := I.pin p hp
    exact ⟨(hs.2 p.1 z3).trans z1, z2, z3, z4, z5⟩
  · refine (I.hok b ob q).stay (fun c u hc z => (hs.2 c ?_).trans z) (fun _ z => z) (fun _ _ z => z)
    rintro rfl
    rcases hc with rfl | hc
    · rw [I.free] at q; cases q
    · rw [I.free] at hc; cases hc
end
end L2

set_option linter.all false
set_option Elab.async false
set_option maxRecDepth 100000
set_option maxHeartbeats 4000000
namespace L2
open PySem PySem.Spec PyProof.Rows
/-! ### try: z = f(..) / f(..), except C as n: suite -/
/-- what is wanted behind an except suite: the name goes -/
def Dx (j : Nat) (D : Ends) : Ends := { nx := fun σ H => D.nx (σ.set j none) H, rt := D.rt, bk := fun σ H => D.bk (σ.set j none) H, ct := fun σ H => D.ct (σ.set j none) H }
section
variable {X : Cx} {pins : List (Addr × Obj)} {σ : St} {H H1 : Hp} {s s1 s' : Shared} {Q : VK} {Ex : XK} {x y n : Str} {e : Expr} {es : List Expr} {t : TA} {p pos np hpos cpos apos p1 tpos : Pos} {ps : List Str} {sp : Sp} {k k2 j : Nat} {C : Addr} {b0 : Stmt} {suite : List Stmt} {su : TS} {D : Ends} {ev : Value}
theorem eval_callX (hnx : ∀ v s, ¬ X.xe v s) (F : DefX X.prog X.w X.K X.mg X.base k x ps sp) (hr : Room k2 X.A) (hj : k ≤ k2) (hg : Gl X x) (ha : QA X (e :: es) t) (hdb : (x == ("__debug__" : Str)) = false) (I : Inv X pins σ H s)
    (h : t σ H fun vs H1 => sp (vs ++ []) H1 Q Ex) :
    wpAny (model X.prog X.w) X.A (eval (.Call (.Name x p) (e :: es) [] pos) X.env) (EP X pins σ Q) (fun ev s' => ∃ H1 s1, Inv X pins σ H1 s1 ∧ CXe X.prog X.w X.stack H1 s1 Ex ev s') s := by
  obtain ⟨f, fd, F, hb, kp, m⟩ := F.ex
  have hp := ha.p
  rw [List.all_cons, Bool.and_eq_true] at hp
  refine wpAny_Call_Name_kw (ld_glob I hg m ?_ hdb)
  refine PySem.W.callWith_K (h₀ := X.base) I.ok.mod.kin kp (wpAny_mono (ha.h pos pins s σ H _ I h) (fun us s1 ⟨vs, H1, I1, r, q⟩ => ⟨I1.kIn, ?_⟩) (fun _ _ z => (hnx _ _ z).elim)) (star_plain hp.1) (any_plain hp.2)
  have r2 : Vals (vs ++ []) (us ++ []) := r.append .nil
  have hl : (us ++ []).length = ps.length := by rw [← r2.length]; exact F.len _ _ _ _ q
  refine wpAny_call (codeAny_mono (F.run X.A X.stack s1 H1 ⟨us, []⟩ (us ++ []) (vs ++ []) Q Ex (hr.mono hj) I1.env0 (hb s1 us I1.kIn hl) r2 q) fun r s' hq => ?_)
  cases r with
  | error ev => exact ⟨H1, s1, I1, hq⟩
  | ok fl =>
    cases fl with
    | ret u => exact I1.after hq
    | next => exact False.elim hq
    | brk => exact False.elim hq
    | cont => exact False.elim hq
theorem handled_ok (hst : X.stack = X.env :: X.outer) (hfm : X.env.frame = some X.env.locals) (I : Inv X pins σ H1 s1) (c : CXe X.prog X.w X.stack H1 s1 Ex ev s') (hy : Gl X y) (my : X.mg y = some (.ref C))
    (hN : X.N.Nodup) (hj : X.N[j]? = some n) (hk : X.env.scope.names.lookup n = some .local) (hd : (y == ("__debug__" : Str)) = false) (hsu : ∀ a, QB (X.caught a) (b0 :: suite) su)
    (hE : ∀ cls H2, Ex cls none H2 → PySem.W.exmOne X.K cls (.ref C) = some true ∧ ∀ a, H2 a = none → su (Dx j D) (σ.set j (some (.ref a))) (upd H2 a (exo cls a))) :
    wpAny (model X.prog X.w) X.A (noteFrame ev X.env) (fun _ s2 => wpAny (model X.prog X.w) X.A (setFlight ev none) (fun _ s3 => wpAny (model X.prog X.w) X.A (handleBy ev X.env [.ExceptHandler (some (.Name y np)) (some n) (b0 :: suite) hpos]) (SP X pins D) X.xe s3) X.xe s2) X.xe s' := by
  obtain ⟨a, cls, H2, rfl, os, bare, ⟨un, hok, ⟨B, t, fly, c1, c2, c3⟩, en, new⟩, hx⟩ := c
  obtain ⟨hm, hsuite⟩ := hE cls H2 hx
  have fly' : Heap.FlyingW B (X.env :: X.outer) a cls (.ref t) s'.heap := hst ▸ fly
  have hfr : X.A.frames = some (X.env :: X.outer) := hst ▸ I.ok.frames
  refine wpAny_looks_onW hfr hfm fly' fun h4 held4 u4 => ?_
  refine wpAny_landsW held4 fun h5 fly5 u5 => ?_
  have u15 := u4.trans u5
  have I5 := (landed (tk := s'.toks) I os bare un hok c1 c2 c3 en new (hst.symm ▸ fly5) u15).caught a
  refine wpAny_handleBy_cons (codeAny_handlers_test (ld_glob I5 hy my ?_ hd)) (by intro q; cases q)
  have LT : PySem.W.Looks (model X.prog X.w) h5 (typeOf (.ref a)) cls := by
    obtain ⟨ob, z, rfl⟩ := fly5.there
    exact (PySem.W.Looks.ld z).andThen .now
  refine PySem.W.exm_one I5.kIn LT hm _ _ _ _ (fun _ _ z => z) ?_
  refine codeAny_handlers_suite_as (lands_againW fly5 fun h6 fly6 u6 => ?_)
  have I6 := (landed (tk := s'.toks) I os bare un hok c1 c2 c3 en new (hst.symm ▸ fly6) (u15.trans u6)).caught a
  refine store_ok (X := X.caught a) (v := .ref a) I6 hN hj (.inl hk) rfl (fun s7 I7 => ?_) (.inr hk)
  refine wpAny_mono ((hsu a).h pins s7 _ _ (Dx j D) I7 (hsuite a en)) (fun f s8 q => ?_) (fun _ _ z => z.elim)
  cases f with
  | next => obtain ⟨σ', H3, I8, q⟩ := q; exact gone_ok (I8.uncaught I.ok) hN hj hk fun s9 I9 => ⟨_, H3, I9, q⟩
  | brk => obtain ⟨σ', H3, I8, q⟩ := q; exact gone_ok (I8.uncaught I.ok) hN hj hk fun s9 I9 => ⟨_, H3, I9, q⟩
  | cont => obtain ⟨σ', H3, I8, q⟩ := q; exact gone_ok (I8.uncaught I.ok) hN hj hk fun s9 I9 => ⟨_, H3, I9, q⟩
  | ret u => obtain ⟨v, σ', H3, I8, r, q⟩ := q; exact gone_ok (I8.uncaught I.ok) hN hj hk fun s9 I9 => ⟨v, _, H3, I9, r, q⟩
end
end L2

set_option linter.all false
set_option Elab.async false
set_option maxRecDepth 100000
set_option maxHeartbeats 2000000
namespace L2
open PySem PySem.Spec PyProof.Rows PySem.W
/-! ### isinstance of an exception of one's own class -/
/-- what isinstance asks of such a class -/
structure ExI (K : Frag) (C : Addr) : Prop where
  own : excIn K C bmV "ValueError.__new__" = true
  cl : findIn K (.ref C) "__class__" = some (some (.builtin "object.__class__"))
  ob : mroIn K C (.type "object") = some true
  be : mroIn K C (.type "BaseException") = some true
  ga : findIn K (.ref C) "__getattribute__" = some (some (.builtin "BaseException.__getattribute__"))
  gn : findIn K (.ref C) "__getattr__" = some none
def ExAt (h : Heap) (a C : Addr) : Prop := ∃ o, h.get? a = some o ∧ o.cls = .ref C
section
variable {prog : Program} {w : World} {A : Around} {E : Value → Shared → Prop} {K : Frag} {h : Heap} {g : Array GenState} {d : Drawn} {t : Nat} {os : OsState} {a C : Addr}
theorem exc_get {R : Result → Shared → Prop} {tp : Value} (hK : K.In h) (hx : ExAt h a C) (i : ExI K C) (hq : R (.ok (.ret (.ref C))) ⟨h, g, d, t, os⟩) :
    codeAny (model prog w) A (.call (.builtin "getset_descriptor.__get__") ⟨[.builtin "object.__class__", .ref a, tp], []⟩) R ⟨h, g, d, t, os⟩ := by
  obtain ⟨o, ho, hc⟩ := hx
  have Lm := looks_mroIn (M := model prog w) hK i.ob
  have Lt : Looks (model prog w) h (typeOf (.ref a)) (.ref C) := hc ▸ (Looks.ld ho).andThen .now
  refine codeAny_call_builtin (PySem.W.KF.slot_gs).plain (PySem.W.KF.entry_gs) ?_
  refine (PySem.W.KF.slot_gs).check _ _ _ _ _ _ _ _ (PySem.W.KF.type_class) (PySem.W.KF.args_gs _ _ _) ?_
  repeat (any_goals (first | assumption | (with_reducible refine wpAny_loadPart_at ho ?_; rw [hc]) | (with_reducible refine Lm.at ?_) | wp_step))
  have ow : ".".intercalate ("object.__class__".cutAt '.').dropLast = "object" := by decide +kernel
  rw [ow]
  repeat (any_goals (first | assumption | (with_reducible refine Lm.at ?_) | wp_step))
  constructor
  · exact Code.quiet_builtin _ (by decide +kernel)
  refine codeAny_builtin (PySem.W.KF.entry_class) ?_
  unfold Builtin.«object.__class__» shownTypeOf
  repeat (any_goals (first | assumption | (with_reducible refine wpAny_loadPart_at ho ?_; rw [hc]) | wp_step))
theorem exc_call {tk : Tok} {R : Result → Shared → Prop} (hK : K.In h) (hx : ExAt h a C) (i : ExI K C) (hq : R (.ok (.ret (.ref C))) ⟨h, g, d, t, os⟩) :
    codeAny (model prog w) A (.call (.builtin "BaseException.__getattribute__") ⟨[.ref a, .str "__class__" tk], []⟩) R ⟨h, g, d, t, os⟩ := by
  refine codeAny_call_builtin (by decide +kernel) PySem.F.entry_bexc_ga ?_
  have kA : builtinKind "BaseException.__getattribute__" = some .slot := by decide +kernel
  have sA : splitId "BaseException.__getattribute__" = some ("BaseException", "__getattribute__") := by decide +kernel
  have aA := PySem.F.args_bexc_ga (.ref a) (.str "__class__" tk)
  have L1 := looks_mroIn (M := model prog w) hK i.be
  have Lc := looks_findIn (M := model prog w) hK i.cl
  obtain ⟨o, ho, hc⟩ := id hx
  simp only [checkBuiltinCall, kA, sA]
  refine wpAny_bind ?_
  unfold isInstance
  have g5 : typeOf (.builtin "object.__class__") = pure (.type "getset_descriptor") := by show builtinType _ = _; rw [builtinType_eq_fast]; kernel_rfl
  have g6 := PySem.F.slot_gs_get.lookup
  have g7 := PySem.F.slot_gs_set.lookup
  repeat (any_goals (first | assumption | (with_reducible refine wpAny_loadPart_at ho ?_; rw [hc]) | (with_reducible refine L1.at ?_) | (with_reducible refine Lc.at ?_) | wp_step))
  refine exc_get hK hx i ?_
  repeat (any_goals (first | assumption | wp_step))
theorem exc_class {Q : Option Value → Shared → Prop} (hK : K.In h) (hx : ExAt h a C) (i : ExI K C) (hq : Q (some (.ref C)) ⟨h, g, d, t + 1, os⟩) : wpAny (model prog w) A (getAttr? (.ref a) "__class__") Q E ⟨h, g, d, t, os⟩ := by
  have L1 := looks_findIn (M := model prog w) hK i.ga
  have L2 := looks_findIn (M := model prog w) hK i.gn
  obtain ⟨o, ho, hc⟩ := id hx
  have n2 : (Value.builtin "BaseException.__getattribute__" == Value.builtin "object.__getattribute__") = false := by decide +kernel
  have n1 : (onTheHeap (Value.ref C) && Value.builtin "BaseException.__getattribute__" == Value.builtin "object.__getattribute__") = false := by rw [n2]; rfl
  unfold getAttr? getAttrBy? getAttrBy
  repeat (any_goals (first | assumption | (with_reducible refine wpAny_loadPart_at ho ?_; rw [hc]) | (with_reducible refine L1.at ?_) | (with_reducible refine L2.at ?_) | wp_step))
  have b3 := PySem.F.attr_ValueError.ga.bind (.ref a)
  repeat (any_goals (first | assumption | wp_step))
  refine exc_call hK hx i ?_
  repeat (any_goals (first | assumption | wp_step))
theorem kitx_exc (i : ExI K C) : KitX K (.ref a) (.ref C) (fun h => ExAt h a C) where
  ty := fun M h _ ⟨o, ho, hc⟩ => hc ▸ (Looks.ld ho).andThen .now
  it := fun M h hK _ => by
    obtain ⟨bm, N, nm, qn, bs, hd, sn, sub, ab, col, dd, a0, a1, a2, a3, a5, mN, hC, _⟩ := own_at hK i.own
    intro A2 Q2 E2 s2 k q
    unfold isType loadHead
    exact wpAny_bind (wpAny_loadPart (k _ _ hC) (wpAny_pure q))
  ne := fun h tp dd its n sl hK htp => by
    obtain ⟨bm, N, nm, qn, bs, hd, sn, sub, ab, col, dd2, a0, a1, a2, a3, a5, mN, hC, _⟩ := own_at hK i.own
    refine Bool.eq_false_iff.mpr fun q => ?_
    have e : C = tp := Value.ref.inj (beq_iff_eq.mp q)
    subst e
    rw [hC] at htp
    have z := congrArg Obj.data (Option.some.inj htp)
    simp [excClassObj] at z
  ca := fun {prog w A E Q s} hK hx k => by
    obtain ⟨hh, g, d, t, os⟩ := s
    exact exc_class hK hx i k
end
end L2

set_option linter.all false
set_option Elab.async false
set_option maxRecDepth 100000
set_option maxHeartbeats 2000000
namespace L2
open PySem PySem.Spec PyProof.Rows
/-- a class as a value -/
def clsV : V → Option Value
  | .ref D => some (.ref D)
  | .ty n => some (.type n)
  | _ => none
theorem clsV_rel {c : V} {u cv : Value} (h : clsV c = some cv) (r : RelV c u) : u = cv := by
  cases c <;> simp [clsV] at h <;> subst h <;> exact r
/-- isinstance of a caught exception -/
@[irreducible] def hIsx (K : PySem.W.Frag) (a : Addr) (c : V) (H : Hp) (Q : VK) : Prop := ∃ C cv b, H a = some (exo (.ref C) a) ∧ ExI K C ∧ clsV c = some cv ∧ PySem.W.kitOne K (.ref C) cv = some b ∧ Q (.bl b) H
theorem i_isx {K : PySem.W.Frag} {a C : Addr} {c : V} {cv : Value} {b : Bool} {H : Hp} {Q : VK} (h : H a = some (exo (.ref C) a)) (i : ExI K C) (hc : clsV c = some cv) (e : PySem.W.kitOne K (.ref C) cv = some b) (q : Q (.bl b) H) : hIsx K a c H Q := by
  unfold hIsx; exact ⟨C, cv, b, h, i, hc, e, q⟩
def vIsx (K : PySem.W.Frag) : List V → Hp → VK → Prop := fun xs H Q => match xs with
  | [.ref a, c] => hIsx K a c H Q
  | _ => False
section
variable {X : Cx} {K : PySem.W.Frag} {x : Str} {C : Addr} {pos : Pos}
theorem kIsx (hK : X.K = K) : CallR X (.builtin "isinstance") (vIsx K) := by
  subst hK
  intro pins s σ H xs us Q I rv h
  unfold vIsx at h; split at h
  · unfold hIsx at h
    obtain ⟨C, cv, b, h1, h2, h3, h4, q⟩ := h
    obtain ⟨u, v, rfl, ru, rw2⟩ := rv.two
    cases ru
    have e := clsV_rel h3 rw2
    subst e
    obtain ⟨p, _, _⟩ := (show ObjOk X.prog X.w H s.heap _ (exo (.ref C) _) from I.hok _ _ h1)
    exact PySem.W.kia_one (kitx_exc h2) I.kIn p h4 (fun z => nomatch z) fun tk => ⟨.bl b, H, I.tok _, rfl, q⟩
  · exact h.elim
/-- the name of a class -/
theorem qe_clsN (hg : Gl X x) (hm : X.mg x = some (.ref C)) (hd : (x == ("__debug__" : Str)) = false := by decide) : QE X (.Name x pos) (tC (.ref C)) := ⟨pe_glob (v := .ref C) hg hm rfl hd⟩
end
end L2

set_option linter.all false
set_option Elab.async false
set_option maxRecDepth 100000
set_option maxHeartbeats 2000000
namespace L2
open PySem PySem.Spec PyProof.Rows
/-! ### a sign in a text, as a test -/
section
variable {X : Cx} {a b : Expr} {ta tb : TE} {pos : Pos}
end
end L2

set_option linter.all false
set_option Elab.async false
set_option maxRecDepth 100000
set_option maxHeartbeats 2000000
namespace L2
open PySem PySem.Spec PyProof.Rows
/-! ### a piece of a text -/
section
variable {X : Cx} {e : Expr} {te : TE} {pos p2 : Pos}
end
end L2

set_option linter.all false
set_option Elab.async false
set_option maxRecDepth 100000
set_option maxHeartbeats 2000000
namespace L2
open PySem PySem.Spec PyProof.Rows
/-! ### a sign so many times -/
section
variable {X : Cx}
end
end L2

set_option linter.all false
set_option Elab.async false
set_option maxRecDepth 100000
set_option maxHeartbeats 2000000
namespace L2
open PySem PySem.Spec PyProof.Rows
/-! ### more numbers shown; [text] * k -/
theorem shw_ints2 {ns : List Int} (h : ∀ n ∈ ns, n.natAbs < 10 ^ 40) (hl : ns.length ≤ 2000) : Shw (intsD ns) := by
  obtain ⟨h1, h2, h3, h4⟩ := ints_ok h
  refine ⟨h1, h2, depth_ints ns, ?_⟩
  have := PyData.shown_le_bulk 41 (by decide) (intsD ns) h3
  have e : (intsD ns).bulk = ns.length := h4
  rw [e] at this
  refine Nat.le_trans this ?_
  rw [sizeLine_eq]; omega
end L2

set_option linter.all false
set_option Elab.async false
set_option maxRecDepth 100000
set_option maxHeartbeats 2000000
namespace L2
open PySem PySem.Spec PyProof.Rows
/-! ### all of a list of truths -/
section
variable {X : Cx} {K : PySem.W.Frag}
end
end L2

set_option linter.all false
set_option Elab.async false
set_option maxRecDepth 100000
set_option maxHeartbeats 4000000
namespace L2
open PySem PySem.Spec PyProof.Rows
/-! ### exceptions: what does not raise within what does; a def that raises, asked where it does not; methods that raise; except without a name -/
section
variable {X : Cx}
theorem qs_nox {st : Stmt} {t : TS} (h : QS X.nox st t) : QS X st t := ⟨fun pins s σ H D I hw => wpAny_mono (h.h pins s σ H D (I.wish _) hw) (fun _ _ q => q.unwish) fun _ _ z => False.elim z⟩
end
/-- asked where it does not raise -/
def spP (sp : Sp) : Sp := fun vs H Q _ => sp vs H Q E0
theorem FnOk.plain {P : Program} {w : World} {K : PySem.W.Frag} {mg : Str → Option Value} {base : Heap} {k : Nat} {f : Addr} {fd : FuncData} {ps : List Str} {sp : Sp} (F : FnOk P w K mg base (CXe P w) k f fd ps sp) : FnOk P w K mg base CX0 k f fd ps (spP sp) :=
  ⟨fun vs H Q E q => F.len vs H Q E0 q, fun A outer s H args us vs Q E hr he hb hv hs => codeAny_mono (F.run A outer s H args us vs Q E0 hr he hb hv hs) fun r s' q => by
    cases r with
    | error e => obtain ⟨_, _, _, _, _, _, _, z⟩ := q; exact z.elim
    | ok fl => cases fl <;> exact q⟩
theorem DefX.plain {P : Program} {w : World} {K : PySem.W.Frag} {mg : Str → Option Value} {base : Heap} {k : Nat} {x : Str} {ps : List Str} {sp : Sp} (D : DefX P w K mg base k x ps sp) : Def P w K mg base k x ps (spP sp) := by
  obtain ⟨f, fd, F, b, kp, m⟩ := D.ex
  exact ⟨f, fd, F.plain, b, kp, m⟩
/-- a method from which exceptions may go out -/
structure MthX (P : Program) (w : World) (K : PySem.W.Frag) (mg : Str → Option Value) (base : Heap) (k : Nat) (C : Addr) (m : Str) (ps : List Str) (sp : Sp) : Prop where
  cl : Cls K C
  ex : ∃ f fd, FnOk P w K mg base (CXe P w) k f fd ps sp ∧ Binds K fd ps [] ∧ Meth K C m f
section
variable {X : Cx} {C : Addr} {m : Str} {e o : Expr} {es : List Expr} {to : TE} {t : TA} {pos apos : Pos} {E : XK}
end
section
variable {X : Cx} {pins : List (Addr × Obj)} {σ : St} {H H1 : Hp} {s s1 s' : Shared} {Q : VK} {Ex : XK} {x y n m : Str} {e o : Expr} {es : List Expr} {t : TA} {to : TE} {p pos np hpos cpos apos p1 tpos : Pos} {ps : List Str} {sp : Sp} {k k2 j : Nat} {C : Addr} {b0 : Stmt} {suite : List Stmt} {su : TS} {D : Ends} {ev : Value}
end
end L2

set_option linter.all false
set_option Elab.async false
set_option maxRecDepth 100000
set_option maxHeartbeats 4000000
namespace L2
open PySem PySem.Spec PyProof.Rows
/-! ### a comprehension over a text -/
section
variable {g : TG} {tt : TT} {te : TE} {σ0 : St} {H1 : Hp} {Q : Addr → Hp → Prop} {K : PySem.W.Frag}
end
end L2

set_option linter.all false
set_option Elab.async false
set_option maxRecDepth 100000
set_option maxHeartbeats 4000000
namespace L2
open PySem PySem.Spec PyProof.Rows PySem.W
/-! ### things known by their class alone: a dict, an exception as a value; isinstance of them -/
section
variable {prog : Program} {w : World} {A : Around} {E : Value → Shared → Prop} {h : Heap} {g : Array GenState} {d : Drawn} {t : Nat} {os : OsState} {a : Addr} {o : Obj} {K : Frag}
theorem ve_get {R : Result → Shared → Prop} (hx : h.get? a = some o) (hc : o.cls = .type "ValueError") (hq : R (.ok (.ret (.type "ValueError"))) ⟨h, g, d, t, os⟩) :
    codeAny (model prog w) A (.call (.builtin "getset_descriptor.__get__") ⟨[.builtin "object.__class__", .ref a, .type "ValueError"], []⟩) R ⟨h, g, d, t, os⟩ := by
  have hT : (⟨h, g, d, t, os⟩ : Shared).TypeIs (.ref a) "ValueError" := ⟨_, hx, hc⟩
  have f8 : isSubtype (.type "ValueError") (.type (".".intercalate ("object.__class__".cutAt '.').dropLast)) = pure true := by
    have ow : ".".intercalate ("object.__class__".cutAt '.').dropLast = "object" := by decide +kernel
    rw [ow, isSubtype_type]; kernel_rfl
  refine codeAny_call_builtin (PySem.W.KF.slot_gs).plain (PySem.W.KF.entry_gs) ((PySem.W.KF.slot_gs).check _ _ _ _ _ _ _ _ (PySem.W.KF.type_class) (PySem.W.KF.args_gs _ _ _) ?_)
  repeat (any_goals (first | assumption | wp_step))
  constructor
  · exact Code.quiet_builtin _ (by decide +kernel)
  refine codeAny_builtin (PySem.W.KF.entry_class) ?_
  unfold Builtin.«object.__class__» shownTypeOf
  repeat (any_goals (first | assumption | wp_step))
theorem ve_call {tk : Tok} {R : Result → Shared → Prop} (hx : h.get? a = some o) (hc : o.cls = .type "ValueError") (hq : R (.ok (.ret (.type "ValueError"))) ⟨h, g, d, t, os⟩) :
    codeAny (model prog w) A (.call (.builtin "BaseException.__getattribute__") ⟨[.ref a, .str "__class__" tk], []⟩) R ⟨h, g, d, t, os⟩ := by
  have hT : (⟨h, g, d, t, os⟩ : Shared).TypeIs (.ref a) "ValueError" := ⟨_, hx, hc⟩
  have g5 : typeOf (.builtin "object.__class__") = pure (.type "getset_descriptor") := by show builtinType _ = _; rw [builtinType_eq_fast]; kernel_rfl
  have g6 := PySem.F.slot_gs_get.lookup
  have g7 := PySem.F.slot_gs_set.lookup
  have l1 : typeLookup (.type "ValueError") "__class__" = pure (some (.builtin "object.__class__")) := by rw [typeLookup_type, builtinLookup_eq_fast]; kernel_rfl
  refine codeAny_call_builtin PySem.F.attr_ValueError.ga.plain PySem.F.entry_bexc_ga (PySem.F.attr_ValueError.ga.check _ _ _ _ _ _ _ _ hT (PySem.F.args_bexc_ga _ _) ?_)
  repeat (any_goals (first | assumption | wp_step))
  refine ve_get hx hc ?_
  repeat (any_goals (first | assumption | wp_step))
theorem class_attr_ve {Q : Option Value → Shared → Prop} (hx : h.get? a = some o) (hc : o.cls = .type "ValueError") (hq : Q (some (.type "ValueError")) ⟨h, g, d, t + 1, os⟩) : wpAny (model prog w) A (getAttr? (.ref a) "__class__") Q E ⟨h, g, d, t, os⟩ := by
  have hT : (⟨h, g, d, t + 1, os⟩ : Shared).TypeIs (.ref a) "ValueError" := ⟨_, hx, hc⟩
  have vc : ∀ {A : Around} {tk : Tok} {R : Result → Shared → Prop}, R (.ok (.ret (.type "ValueError"))) ⟨h, g, d, t + 1, os⟩ → codeAny (model prog w) A (.call (.builtin "BaseException.__getattribute__") ⟨[.ref a, .str "__class__" tk], []⟩) R ⟨h, g, d, t + 1, os⟩ := fun hq => ve_call hx hc hq
  obtain ⟨oc, od, oda, osl⟩ := o
  dsimp only at hc
  subst hc
  have l1 := PySem.F.attr_ValueError.ga.lookup
  have l2 : typeLookup (.type "ValueError") "__getattr__" = pure none := by rw [typeLookup_type, builtinLookup_eq_fast]; kernel_rfl
  have n2 : (Value.builtin "BaseException.__getattribute__" == Value.builtin "object.__getattribute__") = false := by decide +kernel
  have b3 := PySem.F.attr_ValueError.ga.bind (.ref a)
  unfold getAttr? getAttrBy? getAttrBy
  repeat (any_goals (first | assumption | wp_step))
  refine vc ?_
  repeat (any_goals (first | assumption | wp_step))
theorem kitx_ve : KitX K (.ref a) (.type "ValueError") (KitAt a "ValueError") := kitx_of kitAt_ty (fun {_ _ _ _ _ s} p k => by obtain ⟨h, g, d, t, os⟩ := s; obtain ⟨o, h1, h2⟩ := p; exact class_attr_ve h1 h2 k)
end
section
variable {X : Cx} {pins : List (Addr × Obj)} {σ : St} {H : Hp} {s : Shared} {h' : Heap} {e : Addr} {cls : Value} {K : Frag}
/-- something new, known by its class -/
theorem Inv.laidE {tk : Nat} (I : Inv X pins σ H s) (k : ∀ b u, s.heap.get? b = some u → h'.get? b = some u) (new : s.heap.get? e = none) (th : ∃ ob, h'.get? e = some ob ∧ ob.cls = cls) :
    H e = none ∧ Inv X pins σ (upd H e (exo cls e)) { s with heap := h', toks := tk } := by
  have hn : H e = none := by
    cases hb : H e with
    | none => rfl
    | some u => obtain ⟨ob, e1⟩ := (I.hok e u hb).has; rw [new] at e1; cases e1
  have ne : ∀ b u, H b = some u → b ≠ e := fun b u q z => by subst z; rw [hn] at q; cases q
  refine ⟨hn, I.call' (s' := { s with heap := h', toks := tk }) (ch := []) rfl ⟨?_, ?_, ?_, ?_, ?_, ?_, ?_⟩ ?_ I.bare (fun _ z => nomatch z)⟩
  · exact fun b o q _ _ _ => k b o q
  · exact fun b o q _ _ _ => ⟨o.slots, k b o q⟩
  · intro b o q n he
    rw [upd_ne (fun z => by subst z; rw [new] at q; cases q)]
    exact n
  · exact fun b o q _ => ⟨o, k b o q⟩
  · intro b xs q
    rw [upd_ne (ne b _ q)]; exact q
  · intro b o u q
    rw [upd_ne (ne b _ q)]; exact q
  · intro b ps q
    exact ⟨#[], by rw [upd_ne (ne b _ q), q]; simp⟩
  · intro a o q
    by_cases ha : a = e
    · subst ha
      rw [upd_same] at q; cases q
      obtain ⟨ob, e1, e2⟩ := th
      exact ⟨⟨ob, e1, e2⟩, ⟨ob, e1⟩, fun h1 h2 ⟨ob, x1, x2⟩ k => ⟨ob, k _ x1, x2⟩⟩
    · rw [upd_ne ha] at q
      exact (I.hok a o q).stay (fun b u hb q2 => k b u q2) (fun b z => by rw [upd_ne (ne b _ z)]; exact z) (fun b _ z => by rw [upd_ne (ne b _ z)]; exact z)
@[irreducible] def hNewE (T : String) (H : Hp) (Q : VK) : Prop := ∀ p, H p = none → Q (.ref p) (upd H p (exo (.type T) p))
theorem i_newE {T : String} {H : Hp} {Q : VK} (q : ∀ p H', H p = none → Same H H' → H' p = some (exo (.type T) p) → Q (.ref p) H') : hNewE T H Q := by unfold hNewE; exact fun p hp => q p _ hp (same_upd hp) upd_same
def mDict : TE := fun _ H Q => hNewE "dict" H Q
theorem qe_dict0 {pos : Pos} : QE X (.Dict [] [] pos) mDict := ⟨by
  intro pins s σ H Q I h
  have h := (show hNewE "dict" H Q from h)
  unfold hNewE at h
  refine wpAny_Dict_empty ?_
  obtain ⟨hn, I2⟩ := I.laidE (e := s.heap.objs.size) (cls := .type "dict") (tk := s.toks) (h' := s.heap.push { cls := .type "dict", data := .dict #[] }) (fun b u q => Heap.get?_push_of_some _ q) (by
    cases q : s.heap.get? s.heap.objs.size with
    | none => rfl
    | some o => exact absurd (Heap.lt_size q) (Nat.lt_irrefl _)) ⟨_, Heap.get?_push_size _ rfl, rfl⟩
  exact ⟨.ref _, _, I2, rfl, h _ hn⟩⟩
theorem qe_dict1 {a b : Int} {j1 j2 : Nat} {p1 p2 pos : Pos} : QE X (.Dict [some (.Constant (.int a) j1 p1)] [.Constant (.int b) j2 p2] pos) mDict := ⟨by
  intro pins s σ H Q I h
  have h := (show hNewE "dict" H Q from h)
  unfold hNewE at h
  have hnone : s.heap.get? s.heap.objs.size = none := by
    cases q : s.heap.get? s.heap.objs.size with
    | none => rfl
    | some o => exact absurd (Heap.lt_size q) (Nat.lt_irrefl _)
  refine wpAny_Dict_pairs (knd := intKind X.prog X.w) (pairs := [(eval (.Constant (.int a) j1 p1) X.env, do let x ← eval (.Constant (.int b) j2 p2) X.env; standAt pos; pure x)]) rfl (by simp) (by simp) ?_
  refine evalPairs_cons (wpAny_Constant_int (wpAny_bind (wpAny_Constant_int (wpAny_bind (wpAny_standAt (wpAny_pure (evalPairs_nil ?_)))))))
  refine ⟨[(a, _)], ⟨intKind_is _ _ _ _, rfl, trivial⟩, ⟨_, _, _, Heap.get?_push_size _ rfl, ⟨rfl, rfl, rfl⟩, rfl, (by intro i hi; simp at hi), (by first | trivial | exact .nil | simp [Pairs]), by simp⟩, fun h' hd hs => ?_⟩
  obtain ⟨o, es, ep, q1, q2, _⟩ := hd
  obtain ⟨hn, I2⟩ := I.laidE (e := s.heap.objs.size) (cls := .type "dict") (tk := s.toks + 1 + 1 + 1) (h' := h') (fun b u q => (hs.2 b (Nat.ne_of_lt (Heap.lt_size q))).trans (Heap.get?_push_of_some _ q)) hnone ⟨o, q1, q2.1⟩
  exact ⟨.ref _, _, I2, rfl, h _ hn⟩⟩
/-- an exception as a value -/
def vNewVE : List V → Hp → VK → Prop := fun xs H Q => xs.length ≤ 100 ∧ hNewE "ValueError" H Q
theorem callVE : CallR X (.type "ValueError") vNewVE := by
  intro pins s σ H xs us Q I r h
  obtain ⟨hl, h⟩ := h
  unfold hNewE at h
  refine call_exc excClass_ValueError (fun h' e n => ?_) (by rw [← r.length]; exact sz_of (by omega))
  obtain ⟨hn, I2⟩ := I.laidE (tk := s.toks) n.keeps n.new (let ⟨ob, _, q1, q2, _⟩ := n.there; ⟨ob, q1, q2⟩)
  exact ⟨.ref e, _, I2, rfl, h e hn⟩
/-- isinstance of any of these things -/
@[irreducible] def hIsiG (K : Frag) (x : V) (c : String) (H : Hp) (Q : VK) : Prop := hIsi K x c H Q ∨ ∃ a T, x = .ref a ∧ H a = some (exo (.type T) a) ∧ (T = "dict" ∨ T = "ValueError") ∧ (c = "int" ∨ c = "bool" ∨ c = "list" ∨ c = "str" ∨ c = "tuple") ∧ Q (.bl false) H
theorem i_isiG {K : Frag} {x : V} {c : String} {H : Hp} {Q : VK} (h : hIsi K x c H Q) : hIsiG K x c H Q := by unfold hIsiG; exact .inl h
theorem i_isiE {K : Frag} {a : Addr} {c T : String} {H : Hp} {Q : VK} (h : H a = some (exo (.type T) a)) (ht : T = "dict" ∨ T = "ValueError") (hc : c = "int" ∨ c = "bool" ∨ c = "list" ∨ c = "str" ∨ c = "tuple") (q : Q (.bl false) H) : hIsiG K (.ref a) c H Q := by unfold hIsiG; exact .inr ⟨a, T, rfl, h, ht, hc, q⟩
def vIsiG (K : Frag) : List V → Hp → VK → Prop := fun xs H Q => match xs with
  | [x, .ty c] => hIsiG K x c H Q
  | _ => False
theorem kIsiG (hK : X.K = K) : CallR X (.builtin "isinstance") (vIsiG K) := by
  subst hK
  intro pins s σ H xs us Q I rv h
  unfold vIsiG at h; split at h
  · rename_i x c
    unfold hIsiG at h
    rcases h with h | ⟨a, T, rfl, ha, ht, hc, q⟩
    · exact callIsi pins s σ H _ us Q I rv h
    · obtain ⟨u, v, rfl, ru, rw2⟩ := rv.two
      cases ru
      cases rw2
      obtain ⟨⟨ob, p1, p2⟩, _, _⟩ := (show ObjOk X.prog X.w H s.heap _ (exo (.type T) a) from I.hok _ _ ha)
      rcases ht with rfl | rfl
      · exact PySem.W.kia_one PySem.W.kitx_dict I.kIn ⟨ob, p1, p2⟩ (show kitOne X.K (.type "dict") (.type c) = some false by rcases hc with rfl | rfl | rfl | rfl | rfl <;> rfl) (fun z => nomatch z) fun tk => ⟨.bl false, H, I.tok _, rfl, q⟩
      · exact PySem.W.kia_one kitx_ve I.kIn ⟨ob, p1, p2⟩ (show kitOne X.K (.type "ValueError") (.type c) = some false by rcases hc with rfl | rfl | rfl | rfl | rfl <;> rfl) (fun z => nomatch z) fun tk => ⟨.bl false, H, I.tok _, rfl, q⟩
  · exact h.elim
end
/-- a thing that is no whole number -/
inductive Odd (H : Hp) : V → Prop where
  | non : Odd H .non
  | bl (b : Bool) : Odd H (.bl b)
  | str (z : Str) : Odd H (.str z)
  | lst {a : Addr} {xs : List V} (h : H a = some (.lst xs)) : Odd H (.ref a)
  | tup {a : Addr} {xs : List V} (h : H a = some (.tup xs)) : Odd H (.ref a)
  | dct {a : Addr} (h : H a = some (exo (.type "dict") a)) : Odd H (.ref a)
  | exc {a : Addr} (h : H a = some (exo (.type "ValueError") a)) : Odd H (.ref a)
theorem Odd.same {H H' : Hp} {x : V} (s : Same H H') (o : Odd H x) : Odd H' x := by
  cases o with
  | non => exact .non
  | bl b => exact .bl b
  | str z => exact .str z
  | lst h => exact .lst (s _ _ h)
  | tup h => exact .tup (s _ _ h)
  | dct h => exact .dct (s _ _ h)
  | exc h => exact .exc (s _ _ h)
/-- isinstance(x, int) and not isinstance(x, bool) is false of it -/
theorem Odd.isi {K : Frag} {H : Hp} {x : V} {Q : VK} (o : Odd H x) (h1 : Q (.bl false) H) (h2 : ∀ b, x = .bl b → Q (.bl true) H) : hIsiG K x "int" H Q := by
  cases o with
  | non => exact i_isiG (i_isi .non (by simp) (by simp) h1)
  | bl b => exact i_isiG (i_isi (.bl b) (by simp) (by simp) (h2 b rfl))
  | str z => exact i_isiG (i_isi (.str z) (by simp) (by simp) h1)
  | lst h => exact i_isiG (i_isi (.lst h) (by simp) (by simp) h1)
  | tup h => exact i_isiG (i_isi (.tup h) (by simp) (by simp) h1)
  | dct h => exact i_isiE h (.inl rfl) (.inl rfl) h1
  | exc h => exact i_isiE h (.inr rfl) (.inl rfl) h1
end L2

set_option linter.all false
set_option Elab.async false
set_option maxRecDepth 100000
set_option maxHeartbeats 4000000
namespace L2
open PySem PySem.Spec PyProof.Rows
/-! ### try: if c: f(..) else: g(..), except C as n: suite -/
section
variable {X : Cx} {pins : List (Addr × Obj)} {σ : St} {H H1 : Hp} {s s1 s' : Shared} {Q : VK} {x x2 y n : Str} {e e2 c : Expr} {es es2 : List Expr} {t t2 : TA} {tc : TT} {p p2 np hpos cpos cpos2 apos apos2 ipos pos : Pos} {ps ps2 : List Str} {sp sp2 : Sp} {k kk k2 j : Nat} {C : Addr} {b0 : Stmt} {suite : List Stmt} {su : TS}
def mTryI (K : PySem.W.Frag) (C : Addr) (j : Nat) (tc : TT) (sp : Sp) (t : TA) (sp2 : Sp) (t2 : TA) (su : TS) : TS := fun D σ H => tc σ H fun b H0 =>
  (b = true → t σ H0 fun vs H1 => sp (vs ++ []) H1 (fun _ H2 => D.nx σ H2) fun cls _ H2 => PySem.W.exmOne K cls (.ref C) = some true ∧ ∀ a, H2 a = none → su (Dx j D) (σ.set j (some (.ref a))) (upd H2 a (exo cls a))) ∧
  (b = false → t2 σ H0 fun vs H1 => sp2 (vs ++ []) H1 (fun _ H2 => D.nx σ H2) fun cls _ H2 => PySem.W.exmOne K cls (.ref C) = some true ∧ ∀ a, H2 a = none → su (Dx j D) (σ.set j (some (.ref a))) (upd H2 a (exo cls a)))
theorem ks_tryI {K : PySem.W.Frag} (hK : X.K = K) (hnx : ∀ v s, ¬ X.xe v s) (hst : X.stack = X.env :: X.outer) (hfm : X.env.frame = some X.env.locals) (hc : QT X c tc) (F : DefX X.prog X.w X.K X.mg X.base k x ps sp) (F2 : DefX X.prog X.w X.K X.mg X.base kk x2 ps2 sp2) (hr : Room k2 X.A) (hkk : k ≤ k2) (hkk2 : kk ≤ k2) (hg : Gl X x) (ha : QA X (e :: es) t) (hg2 : Gl X x2) (ha2 : QA X (e2 :: es2) t2)
    (hN : X.N.Nodup) (hy : Gl X y) (my : X.mg y = some (.ref C)) (hj : X.N[j]? = some n) (hk : X.env.scope.names.lookup n = some .local) (hsu : ∀ a, QB (X.caught a) (b0 :: suite) su)
    (hdb : (x == ("__debug__" : Str)) = false := by decide) (hdb2 : (x2 == ("__debug__" : Str)) = false := by decide) (hd : (y == ("__debug__" : Str)) = false := by decide) (hs : swapsWith (.Call (.Name x p) (e :: es) [] cpos) none apos.line X.env = pure false := by rfl) (hs2 : swapsWith (.Call (.Name x2 p2) (e2 :: es2) [] cpos2) none apos2.line X.env = pure false := by rfl) :
    QS X (.Try [.If c [.Expr (.Call (.Name x p) (e :: es) [] cpos) apos] [.Expr (.Call (.Name x2 p2) (e2 :: es2) [] cpos2) apos2] ipos] [.ExceptHandler (some (.Name y np)) (some n) (b0 :: suite) hpos] [] [] pos) (mTryI K C j tc sp t sp2 t2 su) := ⟨by
  subst hK
  intro pins s σ H D I h
  rw [arm_exec_Try]
  refine wpAny_bind (wpAny_standAt (wpAny_tryStmt_except ?_))
  have hb : wpAny (model X.prog X.w) X.A (exec (.If c [.Expr (.Call (.Name x p) (e :: es) [] cpos) apos] [.Expr (.Call (.Name x2 p2) (e2 :: es2) [] cpos2) apos2] ipos) X.env) (fun f s3 => f = .next ∧ SP X pins D .next s3) (fun ev s' => ∃ H1 s1, Inv X pins σ H1 s1 ∧ CXe X.prog X.w X.stack H1 s1 (fun cls _ H2 => PySem.W.exmOne X.K cls (.ref C) = some true ∧ ∀ a, H2 a = none → su (Dx j D) (σ.set j (some (.ref a))) (upd H2 a (exo cls a))) ev s') s := by
    refine wpAny_If (wpAny_mono (hc.h pins s σ H _ I h) (fun d s1 ⟨H1, I1, q1⟩ => ?_) (fun _ _ z => (hnx _ _ z).elim))
    cases d with
    | true =>
      have hcl := eval_callX (p := p) (pos := cpos) hnx F hr hkk hg ha hdb I1 (q1.1 rfl)
      exact wpAny_execs_cons (wpAny_Expr_any (wpAny_mono hcl (fun v s2 ⟨w, H2, I2, r2, q2⟩ => wpAny_execs_nil ⟨rfl, σ, H2, I2, q2⟩) (fun _ _ z => z)) I1.quiet hs)
    | false =>
      have hcl := eval_callX (p := p2) (pos := cpos2) hnx F2 hr hkk2 hg2 ha2 hdb2 I1 (q1.2 rfl)
      exact wpAny_execs_cons (wpAny_Expr_any (wpAny_mono hcl (fun v s2 ⟨w, H2, I2, r2, q2⟩ => wpAny_execs_nil ⟨rfl, σ, H2, I2, q2⟩) (fun _ _ z => z)) I1.quiet hs2)
  refine wpAny_execs_cons (wpAny_mono hb (fun f s3 ⟨hf, q⟩ => ?_) (fun ev s3 ⟨H1, s1, I1, c⟩ => handled_ok hst hfm I1 c hy my hN hj hk hd hsu fun cls H2 q => q))
  subst hf
  exact wpAny_execs_nil (wpAny_execs_nil q)⟩
end
end L2

namespace M5
/-! the mathematics of long cuts -/
/-- the cut of a row by a bound, place by place: tot is what the piece at hand has -/
def lcut (b : Int) : Nat → Int → List Int → List Int
  | _, _, [] => []
  | i, tot, n :: r => if tot + n > b then (i : Int) :: lcut b (i + 1) n r else lcut b (i + 1) (tot + n) r
/-- the pieces of the long cut -/
def gp (b : Int) (ns : List Int) : Nat := if ns = [] then 0 else (lcut b 0 0 ns).length + 1
end M5
namespace M5
end M5
namespace M5
/-- the fewest pieces of the first i numbers -/
def fv (b : Int) (ns : List Int) (i : Nat) : Option Int := if (ns.take i).all (fun n => decide (n ≤ b)) = true then some ((gp b (ns.take i) : Nat) : Int) else none
def seg (ns : List Int) (k e : Nat) : Int := ((ns.take e).drop k).sum
structure Best (b : Int) (ns : List Int) (e lo : Nat) (best : Option Int) : Prop where
  ub : ∀ k, lo ≤ k → k < e → seg ns k e ≤ b → ∀ v, fv b ns k = some v → ∃ w, best = some w ∧ w ≤ v + 1
  ex : ∀ w, best = some w → ∃ k, lo ≤ k ∧ k < e ∧ seg ns k e ≤ b ∧ fv b ns k = some (w - 1)
end M5

namespace M5
end M5

namespace M10
open M5
/-- where pieces end that are as short as the bound lets; tot is what the piece at hand has -/
def sends (b : Int) : Nat → Int → List Int → List Int
  | _, _, [] => []
  | i, tot, n :: r => if tot + n ≥ b then ((i + 1 : Nat) : Int) :: sends b (i + 1) 0 r else sends b (i + 1) (tot + n) r
/-- how many -/
def cnt (b : Int) (tot : Int) (xs : List Int) : Nat := (sends b 0 tot xs).length
/-- the count of the numbers from k on -/
def G (b : Int) (ns : List Int) (k : Nat) : Nat := cnt b 0 (ns.drop k)
/-- the most pieces from k on -/
def M (b : Int) (ns : List Int) (k : Nat) : Option Int := if k = ns.length then some 0 else if G b ns k = 0 then none else some ((G b ns k : Nat) : Int)
structure Top (b : Int) (ns : List Int) (k hi : Nat) (best : Option Int) : Prop where
  ub : ∀ e, k < e → e ≤ hi → seg ns k e ≥ b → ∀ v, M b ns e = some v → ∃ w, best = some w ∧ v + 1 ≤ w
  ex : ∀ w, best = some w → ∃ e, k < e ∧ e ≤ hi ∧ seg ns k e ≥ b ∧ M b ns e = some (w - 1)
end M10

namespace M11
open M5 M10
def pick (w : Nat) (x y : Int) : Int := if w = 0 then min x y else max x y
def both (w : Nat) (x y : Int) : Int := if w = 0 then max x y else min x y
def Le (w : Nat) (x y : Int) : Prop := if w = 0 then x ≤ y else y ≤ x
structure IsBest (w : Nat) (l : List Int) (v : Int) : Prop where
  mem : v ∈ l
  le : ∀ a ∈ l, Le w v a
def lbest (w : Nat) : List Int → Option Int
  | [] => none
  | a :: l => some (l.foldl (pick w) a)
/-- the best of all cuts of the numbers from i on into k + 1 pieces -/
def T (w : Nat) (ns : List Int) : Nat → Nat → Option Int
  | 0, i => if i < ns.length then some (seg ns i ns.length) else none
  | k + 1, i => lbest w ((List.range (ns.length - (k + 1) - i)).map fun j => both w (seg ns i (i + 1 + j)) ((T w ns k (i + 1 + j)).getD 0))
end M11

namespace M7
open M5 M10 M11
/-- the places found from behind: the last piece but l begins at x -/
structure Back (ns : List Int) (t : Int) (m l x : Nat) : Prop where
  le : x + l ≤ ns.length
  ge : 1 ≤ l → m - l ≤ x
  at0 : l = 0 → x = ns.length
  fit : ∀ j, l = j + 1 → ∃ v, T 0 ns j x = some v ∧ v ≤ t
  no : ∀ j, l = j + 1 → ∀ i, m - l ≤ i → i < x → ∀ v, T 0 ns j i = some v → t < v
end M7

set_option linter.all false
namespace M25
/-- the sum of the first i numbers -/
def S (ns : List Int) (i : Nat) : Int := (ns.take i).sum
theorem S_zero (ns : List Int) : S ns 0 = 0 := by simp [S]
theorem S_succ {ns : List Int} {i : Nat} {x : Int} (h : ns[i]? = some x) : S ns (i + 1) = S ns i + x := by
  unfold S
  rw [List.take_add_one, h, List.sum_append]; simp
def pre (ns : List Int) (k : Nat) : List Int := (List.range k).map (S ns)
theorem pre_succ (ns : List Int) (k : Nat) : pre ns (k + 1) = pre ns k ++ [S ns k] := by unfold pre; rw [List.range_succ, List.map_append]; rfl
theorem pre_len (ns : List Int) (k : Nat) : (pre ns k).length = k := by simp [pre]
theorem pre_at {ns : List Int} {k i : Nat} (h : i < k) : (pre ns k)[i]? = some (S ns i) := by
  unfold pre; rw [List.getElem?_map, List.getElem?_range h]; rfl
section
variable {w : Nat → Nat → Int}
end
/-- the square of a stretch's sum -/
def sq (ns : List Int) (b e : Nat) : Int := (S ns e - S ns b) ^ 2
/-- what is collected for an end -/
structure Some_ (ns l : List Int) (i t upto : Nat) (vs : List Int) : Prop where
  a : ∀ v ∈ vs, ∃ m, i ≤ m ∧ m < upto ∧ 0 ≤ l.getD m 0 ∧ v = l.getD m 0 + sq ns m t
  b : ∀ m, i ≤ m → m < upto → 0 ≤ l.getD m 0 → l.getD m 0 + sq ns m t ∈ vs
end M25

set_option linter.all false
namespace M14
open M25
def rsum : Nat → (Nat → Int) → Int
  | 0, _ => 0
  | n + 1, f => rsum n f + f n
theorem rsum_congr {f g : Nat → Int} : ∀ {n : Nat}, (∀ i, i < n → f i = g i) → rsum n f = rsum n g
  | 0, _ => rfl
  | n + 1, h => by unfold rsum; (try dsimp only); rw [rsum_congr (fun i hi => h i (by omega)), h n (by omega)]
theorem rsum_zero {f : Nat → Int} : ∀ {n : Nat}, (∀ i, i < n → f i = 0) → rsum n f = 0
  | 0, _ => rfl
  | n + 1, h => by unfold rsum; (try dsimp only); rw [rsum_zero (fun i hi => h i (by omega)), h n (by omega)]; rfl
theorem rsum_delta (f : Nat → Int) (e : Nat) : ∀ {n : Nat}, e < n → rsum n (fun i => f i * (if i = e then 1 else 0)) = f e
  | n + 1, h => by
    unfold rsum
    try dsimp only
    by_cases z : n = e
    · subst z
      rw [if_pos rfl, rsum_zero (fun i hi => by rw [if_neg (by omega)]; simp)]; omega
    · rw [if_neg z, rsum_delta f e (by omega)]; omega
/-- the number of ways of k steps from b to e -/
def P (A : Nat → Nat → Int) (N : Nat) : Nat → Nat → Nat → Int
  | 0, b, e => if b = e then 1 else 0
  | k + 1, b, e => rsum N fun m => A b m * P A N k m e
/-- whether a stretch's sum lies between -/
def ok (ns : List Int) (lo hi : Int) (b e : Nat) : Int := if b < e ∧ lo ≤ S ns e - S ns b ∧ S ns e - S ns b ≤ hi then 1 else 0
def cnt (ns : List Int) (lo hi : Int) (k b : Nat) : Int := P (ok ns lo hi) (ns.length + 1) k b ns.length
theorem S_mono {ns : List Int} (h0 : ∀ n ∈ ns, 0 ≤ n) : ∀ {i j : Nat}, i ≤ j → S ns i ≤ S ns j := by
  intro i j hij
  induction hij with
  | refl => exact Int.le_refl _
  | step _ ih =>
    rename_i j _
    cases e : ns[j]? with
    | some x => rw [S_succ e]; have := h0 x (List.mem_of_getElem? e); omega
    | none =>
      have hl : ns.length ≤ j := List.getElem?_eq_none_iff.mp e
      have : S ns (j + 1) = S ns j := by unfold S; rw [List.take_of_length_le (by omega), List.take_of_length_le hl]
      rw [this]; exact ih
/-- the ends of a begin -/
structure Rng (ns : List Int) (lo hi : Int) (b f h : Nat) : Prop where
  f1 : b + 1 ≤ f
  fh : f ≤ h
  hn : h ≤ ns.length + 1
  iff : ∀ e, b < e → e ≤ ns.length → ((f ≤ e ∧ e < h) ↔ (lo ≤ S ns e - S ns b ∧ S ns e - S ns b ≤ hi))
theorem sum_drop_take (g : Nat → Int) : ∀ (N f h : Nat), f ≤ h → h ≤ N → ((((List.range N).map g).drop f).take (h - f)).sum = rsum N fun m => (if f ≤ m ∧ m < h then 1 else 0) * g m
  | 0, f, h, h1, h2 => by
    have : h = 0 := by omega
    have : f = 0 := by omega
    subst this; subst this; rfl
  | N + 1, f, h, h1, h2 => by
    unfold rsum
    try dsimp only
    by_cases hh : h ≤ N
    · have ih := sum_drop_take g N f h h1 hh
      rw [← ih, List.range_succ, List.map_append, List.drop_append_of_le_length (by simp; omega), List.take_append_of_le_length (by simp; omega), if_neg (by omega)]
      omega
    · have eh : h = N + 1 := by omega
      subst eh
      by_cases hf : f ≤ N
      · have ih := sum_drop_take g N f N hf (Nat.le_refl _)
        rw [if_pos (by omega), List.range_succ, List.map_append, List.drop_append_of_le_length (by simp; omega)]
        rw [List.take_of_length_le (by simp; omega), List.sum_append]
        rw [List.take_of_length_le (by simp)] at ih
        rw [ih]
        rw [rsum_congr (f := fun m => (if f ≤ m ∧ m < N + 1 then 1 else 0) * g m) (g := fun m => (if f ≤ m ∧ m < N then 1 else 0) * g m) (fun i hi => by
          by_cases z : f ≤ i
          · rw [if_pos ⟨z, by omega⟩, if_pos ⟨z, hi⟩]
          · rw [if_neg (fun q => z q.1), if_neg (fun q => z q.1)])]
        simp
      · have ef : f = N + 1 := by omega
        subst ef
        rw [if_neg (by omega), rsum_zero (fun i hi => by rw [if_neg (by omega)]; simp)]
        simp
theorem cnt_step {ns : List Int} {lo hi : Int} {k b f h : Nat} (hb : b < ns.length) (r : Rng ns lo hi b f h) :
    ((((List.range (ns.length + 1)).map (cnt ns lo hi k)).drop f).take (h - f)).sum = cnt ns lo hi (k + 1) b := by
  rw [sum_drop_take _ _ _ _ r.fh r.hn]
  show _ = rsum (ns.length + 1) fun m => ok ns lo hi b m * P (ok ns lo hi) (ns.length + 1) k m ns.length
  refine rsum_congr fun m hm => ?_
  show (if f ≤ m ∧ m < h then 1 else 0) * _ = _
  congr 1
  unfold ok
  by_cases hbm : b < m
  · have := r.iff m hbm (by omega)
    by_cases z : f ≤ m ∧ m < h
    · rw [if_pos z, if_pos ⟨hbm, this.mp z⟩]
    · rw [if_neg z, if_neg (fun q => z (this.mpr q.2))]
  · have := r.f1
    rw [if_neg (by omega), if_neg (fun q => hbm q.1)]
theorem cnt_end {ns : List Int} {lo hi : Int} {k : Nat} : cnt ns lo hi (k + 1) ns.length = 0 := by
  show rsum (ns.length + 1) (fun m => ok ns lo hi ns.length m * P (ok ns lo hi) (ns.length + 1) k m ns.length) = 0
  refine rsum_zero fun m hm => ?_
  unfold ok
  rw [if_neg (by omega)]; simp
theorem cnt_zero {ns : List Int} {lo hi : Int} : (List.range (ns.length + 1)).map (cnt ns lo hi 0) = List.replicate ns.length 0 ++ [1] := by
  rw [List.range_succ, List.map_append]
  congr 1
  · apply List.ext_getElem (by simp)
    intro i h1 h2
    simp only [List.getElem_map, List.getElem_range, List.getElem_replicate]
    have : i < ns.length := by simpa using h1
    show (if i = ns.length then (1 : Int) else 0) = 0
    rw [if_neg (by omega)]
  · simp [cnt, P]
def row (g : Nat → Int) (N : Nat) : List Int := (List.range N).map g
theorem row_len (g : Nat → Int) (N : Nat) : (row g N).length = N := by simp [row]
theorem row_getD {g : Nat → Int} {N i : Nat} (h : i < N) : (row g N).getD i 0 = g i := by
  rw [List.getD_eq_getElem?_getD]; unfold row; rw [List.getElem?_map, List.getElem?_range h]; rfl
end M14

set_option linter.all false
namespace M18
open M25 M14 M5 M11
theorem rsum_nn {f : Nat → Int} : ∀ {n : Nat}, (∀ i, i < n → 0 ≤ f i) → 0 ≤ rsum n f
  | 0, _ => Int.le_refl _
  | n + 1, h => by
    have h1 := rsum_nn (f := f) (n := n) fun i hi => h i (by omega)
    have h2 := h n (by omega)
    show 0 ≤ rsum n f + f n
    omega
section
variable {ns : List Int} {lo hi : Int}
theorem ok_or (b e : Nat) : ok ns lo hi b e = 0 ∨ ok ns lo hi b e = 1 := by unfold ok; split <;> simp
theorem ok_one {b e : Nat} : ok ns lo hi b e = 1 ↔ b < e ∧ lo ≤ S ns e - S ns b ∧ S ns e - S ns b ≤ hi := by
  unfold ok; split
  · simp_all
  · simp_all
theorem P_nn (N : Nat) : ∀ (k b e : Nat), 0 ≤ P (ok ns lo hi) N k b e
  | 0, b, e => by show 0 ≤ (if b = e then (1 : Int) else 0); split <;> decide
  | k + 1, b, e => by
    show 0 ≤ rsum N fun m => ok ns lo hi b m * P (ok ns lo hi) N k m e
    refine rsum_nn fun m _ => ?_
    have := P_nn N k m e
    rcases ok_or (ns := ns) (lo := lo) (hi := hi) b m with z | z <;> rw [z] <;> omega
theorem cnt_nn (k b : Nat) : 0 ≤ M14.cnt ns lo hi k b := P_nn _ k b _
theorem term_nn (k b m : Nat) : 0 ≤ ok ns lo hi b m * M14.cnt ns lo hi k m := by
  have := cnt_nn (ns := ns) (lo := lo) (hi := hi) k m
  rcases ok_or (ns := ns) (lo := lo) (hi := hi) b m with z | z <;> rw [z] <;> omega
/-- the ways of which the first end lies before e -/
def acc (ns : List Int) (lo hi : Int) (k i e : Nat) : Int := rsum e fun j => ok ns lo hi i j * M14.cnt ns lo hi k j
theorem acc_succ (k i e : Nat) : acc ns lo hi k i (e + 1) = acc ns lo hi k i e + ok ns lo hi i e * M14.cnt ns lo hi k e := rfl
theorem cnt_acc (k i : Nat) : M14.cnt ns lo hi (k + 1) i = acc ns lo hi k i (ns.length + 1) := rfl
theorem acc_mono (k i : Nat) {e e' : Nat} (h : e ≤ e') : acc ns lo hi k i e ≤ acc ns lo hi k i e' := by
  induction h with
  | refl => exact Int.le_refl _
  | step _ ih => rename_i m _; rw [acc_succ]; have := term_nn (ns := ns) (lo := lo) (hi := hi) k i m; omega
theorem ok_out {i f h x : Nat} (r : Rng ns lo hi i f h) (hx : x ≤ ns.length) (hn : ¬ (f ≤ x ∧ x < h)) : ok ns lo hi i x = 0 := by
  rcases ok_or (ns := ns) (lo := lo) (hi := hi) i x with z | z
  · exact z
  · obtain ⟨h1, h2⟩ := ok_one.mp z
    exact absurd ((r.iff x h1 hx).mpr h2) hn
theorem ok_in {i f h x : Nat} (r : Rng ns lo hi i f h) (hx : x ≤ ns.length) (h1 : f ≤ x) (h2 : x < h) : ok ns lo hi i x = 1 := by
  have := r.f1
  exact ok_one.mpr ⟨by omega, (r.iff x (by omega) hx).mp ⟨h1, h2⟩⟩
theorem acc_zero {i f h : Nat} (r : Rng ns lo hi i f h) (k : Nat) : acc ns lo hi k i f = 0 := by
  have := r.fh
  have := r.hn
  exact rsum_zero fun j hj => by rw [ok_out r (by omega) (by omega)]; simp
theorem acc_full {i f h : Nat} (r : Rng ns lo hi i f h) (k : Nat) : ∀ {x : Nat}, h ≤ x → x ≤ ns.length + 1 → acc ns lo hi k i x = acc ns lo hi k i (ns.length + 1) := by
  intro x h1 h2
  have : ∀ d x, x + d = ns.length + 1 → h ≤ x → acc ns lo hi k i x = acc ns lo hi k i (ns.length + 1) := by
    intro d
    induction d with
    | zero => intro x e _; rw [show x = ns.length + 1 by omega]
    | succ d ih =>
      intro x e hx
      rw [← ih (x + 1) (by omega) (by omega), acc_succ, ok_out r (by omega) (by omega)]; simp
  exact this (ns.length + 1 - x) x (by omega) h1
/-- where the search stands, it stands at an end that has its ways -/
theorem acc_in {i f h x k : Nat} {p : Int} (r : Rng ns lo hi i f h) (h1 : f ≤ x) (h2 : x ≤ ns.length + 1) (h3 : acc ns lo hi (k + 1) i x ≤ p) (h4 : p < M14.cnt ns lo hi (k + 2) i) : x < ns.length ∧ ok ns lo hi i x = 1 := by
  rw [cnt_acc] at h4
  have hxh : x < h := Classical.byContradiction fun z => by
    rw [acc_full r (k + 1) (by omega) h2] at h3; omega
  have := r.hn
  have hx : x ≠ ns.length := fun z => by
    have e : acc ns lo hi (k + 1) i (x + 1) = acc ns lo hi (k + 1) i x := by
      rw [acc_succ, z, cnt_end]; simp
    rw [z] at e h3; omega
  exact ⟨by omega, ok_in r (by omega) h1 hxh⟩
/-- the cut of l places at the place p of the order, of the row from i on -/
inductive At (ns : List Int) (lo hi : Int) : Nat → Nat → Int → List Int → Prop where
  | nil {i : Nat} {p : Int} : At ns lo hi 0 i p []
  | step {l i e : Nat} {p : Int} {c : List Int} (h1 : i < e) (h2 : e < ns.length) (h3 : acc ns lo hi (l + 1) i e ≤ p) (h4 : p < acc ns lo hi (l + 1) i (e + 1)) (h6 : At ns lo hi l e (p - acc ns lo hi (l + 1) i e) c) : At ns lo hi (l + 1) i p ((e : Int) :: c)
end
end M18

set_option linter.all false
namespace M15
open M25 M14 M18
section
variable (ns : List Int) (lo hi : Int)
/-- the ends before N that a piece from b can have -/
def ends (b N : Nat) : List Nat := (List.range N).filter fun e => decide (ok ns lo hi b e = 1)
/-- the cuts of l places of what begins at b, in their order -/
def comps : Nat → Nat → List (List Nat)
  | 0, b => if ok ns lo hi b ns.length = 1 then [[]] else []
  | l + 1, b => (ends ns lo hi b ns.length).flatMap fun e => (comps l e).map (e :: ·)
end
section
variable {ns : List Int} {lo hi : Int}
theorem ends_succ (b N : Nat) : ends ns lo hi b (N + 1) = ends ns lo hi b N ++ (if ok ns lo hi b N = 1 then [N] else []) := by
  unfold ends
  rw [List.range_succ, List.filter_append]
  congr 1
  by_cases z : ok ns lo hi b N = 1
  · rw [if_pos z]; simp [z]
  · rw [if_neg z]; simp [z]
theorem flat_len {l b : Nat} (h : ∀ e, ((comps ns lo hi l e).length : Int) = M14.cnt ns lo hi (l + 1) e) : ∀ N, ((((ends ns lo hi b N).flatMap fun e => (comps ns lo hi l e).map (e :: ·)).length : Nat) : Int) = acc ns lo hi (l + 1) b N
  | 0 => rfl
  | N + 1 => by
    rw [ends_succ, List.flatMap_append, List.length_append, Int.natCast_add, flat_len h N, acc_succ]
    congr 1
    rcases ok_or (ns := ns) (lo := lo) (hi := hi) b N with z | z
    · rw [if_neg (by omega), z]; simp
    · rw [if_pos z, z, Int.one_mul, ← h N]; simp
theorem comps_len : ∀ (l b : Nat), ((comps ns lo hi l b).length : Int) = M14.cnt ns lo hi (l + 1) b
  | 0, b => by
    have e : M14.cnt ns lo hi 1 b = ok ns lo hi b ns.length := by
      show rsum (ns.length + 1) (fun m => ok ns lo hi b m * (if m = ns.length then 1 else 0)) = _
      exact rsum_delta (fun m => ok ns lo hi b m) ns.length (by omega)
    rw [e]
    unfold comps
    rcases ok_or (ns := ns) (lo := lo) (hi := hi) b ns.length with z | z
    · rw [if_neg (by omega), z]; rfl
    · rw [if_pos z, z]; rfl
  | l + 1, b => by
    show ((((ends ns lo hi b ns.length).flatMap fun e => (comps ns lo hi l e).map (e :: ·)).length : Nat) : Int) = _
    rw [flat_len (comps_len l), cnt_acc, acc_succ, cnt_end]; simp
theorem at_uniq {l i : Nat} {p : Int} {c d : List Int} (h : At ns lo hi l i p c) (h' : At ns lo hi l i p d) : c = d := by
  induction h generalizing d with
  | nil => cases h'; rfl
  | step h1 h2 h3 h4 h6 ih =>
    rename_i l i e p c
    cases h' with
    | step g1 g2 g3 g4 g6 =>
      rename_i e' c'
      have he : e = e' := by
        rcases Nat.lt_trichotomy e e' with z | z | z
        · have := acc_mono (ns := ns) (lo := lo) (hi := hi) (l + 1) i (show e + 1 ≤ e' by omega)
          omega
        · exact z
        · have := acc_mono (ns := ns) (lo := lo) (hi := hi) (l + 1) i (show e' + 1 ≤ e by omega)
          omega
      subst he
      rw [ih g6]
theorem ends_pot (b : Nat) : ∀ N, b < N → N ≤ ns.length → ((ends ns lo hi b N).map fun e => 2 ^ (ns.length - e)).sum + 2 ^ (ns.length - N + 1) ≤ 2 ^ (ns.length - b)
  | N + 1, h1, h2 => by
    rw [ends_succ, List.map_append, List.sum_append]
    by_cases z : b < N
    · have ih := ends_pot b N z (by omega)
      have e : 2 ^ (ns.length - N + 1) = 2 ^ (ns.length - N) + 2 ^ (ns.length - N) := by rw [Nat.pow_succ]; omega
      have e2 : ns.length - (N + 1) + 1 = ns.length - N := by omega
      rw [e2]
      have : ((if ok ns lo hi b N = 1 then [N] else []).map fun e => 2 ^ (ns.length - e)).sum ≤ 2 ^ (ns.length - N) := by split <;> simp
      omega
    · have hb : b = N := by omega
      subst hb
      have h0 : ends ns lo hi b b = [] := List.filter_eq_nil_iff.mpr fun e he => by
        have := List.mem_range.mp he
        have : ¬ ok ns lo hi b e = 1 := fun y => by have := (ok_one.mp y).1; omega
        simpa using this
      have h3 : ¬ ok ns lo hi b b = 1 := fun y => by have := (ok_one.mp y).1; omega
      rw [h0, if_neg h3, show ns.length - (b + 1) + 1 = ns.length - b by omega]
      simp
theorem ends_all (b : Nat) : ((ends ns lo hi b ns.length).map fun e => 2 ^ (ns.length - e)).sum ≤ 2 ^ (ns.length - b) := by
  by_cases z : b < ns.length
  · exact Nat.le_trans (Nat.le_add_right _ _) (ends_pot (lo := lo) (hi := hi) b ns.length z (Nat.le_refl _))
  · have h0 : ends ns lo hi b ns.length = [] := List.filter_eq_nil_iff.mpr fun e he => by
      have := List.mem_range.mp he
      have : ¬ ok ns lo hi b e = 1 := fun y => by have := (ok_one.mp y).1; omega
      simpa using this
    rw [h0]; simp
theorem sum_le {α : Type} (f g : α → Nat) (h : ∀ a, f a ≤ g a) : ∀ l : List α, (l.map f).sum ≤ (l.map g).sum
  | [] => Nat.le_refl _
  | a :: l => by have := sum_le f g h l; have := h a; simp only [List.map_cons, List.sum_cons]; omega
theorem comps_le : ∀ (l b : Nat), (comps ns lo hi l b).length ≤ 2 ^ (ns.length - b)
  | 0, b => by
    have := Nat.one_le_two_pow (n := ns.length - b)
    unfold comps; split <;> simp <;> omega
  | l + 1, b => by
    show ((ends ns lo hi b ns.length).flatMap fun e => (comps ns lo hi l e).map (e :: ·)).length ≤ _
    refine Nat.le_trans ?_ (ends_all (lo := lo) (hi := hi) b)
    rw [List.length_flatMap]
    refine sum_le _ _ (fun e => ?_) _
    rw [List.length_map]
    exact comps_le l e
end
end M15

set_option linter.all false
set_option Elab.async false
set_option maxRecDepth 100000
set_option maxHeartbeats 4000000
namespace L2
open PySem PySem.Spec PyProof.Rows
/-- the builtins' names are not bound -/
structure Bl (mg : Str → Option Value) : Prop where
  list : mg "list" = none
  enumerate : mg "enumerate" = none
  int : mg "int" = none
  sum : mg "sum" = none
  range : mg "range" = none
  sorted : mg "sorted" = none
  max : mg "max" = none
  min : mg "min" = none
  len : mg "len" = none
  repr : mg "repr" = none
  isinstance : mg "isinstance" = none
  zip : mg "zip" = none
  bool : mg "bool" = none
  tuple : mg "tuple" = none
  str : mg "str" = none
  dict : mg "dict" = none
  abs : mg "abs" = none
theorem boot_int : bootBuiltins "int" = some (.type "int") := by decide +kernel
theorem boot_list : bootBuiltins "list" = some (.type "list") := by decide +kernel
theorem boot_bool : bootBuiltins "bool" = some (.type "bool") := by decide +kernel
theorem boot_str : bootBuiltins "str" = some (.type "str") := by decide +kernel
theorem boot_sum' : bootBuiltins "sum" = some (.builtin "sum") := by decide +kernel
theorem boot_max' : bootBuiltins "max" = some (.builtin "max") := by decide +kernel
theorem boot_min' : bootBuiltins "min" = some (.builtin "min") := by decide +kernel
theorem boot_len' : bootBuiltins "len" = some (.builtin "len") := by decide +kernel
theorem boot_sorted' : bootBuiltins "sorted" = some (.builtin "sorted") := by decide +kernel
theorem boot_repr' : bootBuiltins "repr" = some (.builtin "repr") := by decide +kernel
theorem boot_isinstance' : bootBuiltins "isinstance" = some (.builtin "isinstance") := by decide +kernel
/-- the two numbers of a hand -/
structure Hand (d m : Int) : Prop where
  d0 : 0 ≤ d
  m0 : 0 ≤ m
  m1 : m < 2147483587
def HandAt (H : Hp) (h : Addr) : Prop := ∃ d m, H h = some (.lst [.int d, .int m]) ∧ Hand d m
theorem HandAt.same {H H' : Hp} {h : Addr} (s : Same H H') (x : HandAt H h) : HandAt H' h := let ⟨d, m, q, z⟩ := x; ⟨d, m, s _ _ q, z⟩
theorem HandAt.kp {H H' : Hp} {h : Addr} {S : List Addr} (s : Kp S H H') (n : h ∉ S) (x : HandAt H h) : HandAt H' h := let ⟨d, m, q, z⟩ := x; ⟨d, m, s _ _ n q, z⟩
theorem HandAt.ne {H : Hp} {h p : Addr} (x : HandAt H h) (hp : H p = none) : h ≠ p := let ⟨_, _, q, _⟩ := x; ne_of_none q hp
def sp_law_hand : Sp := fun vs H Q _ => ∃ cell k : Int, vs = [.int cell, .int k] ∧ 0 ≤ k ∧ k ≤ 100 ∧ ∀ p H', H p = none → Same H H' → HandAt H' p → Q (.ref p) H'
def sp_law_draw : Sp := fun vs H Q _ => ∃ (h : Addr) (lim : Int), vs = [.ref h, .int lim] ∧ HandAt H h ∧ 0 < lim ∧ lim < 2 ^ 200 ∧ ∀ g H', 0 ≤ g → g < lim → HandAt H' h → Kp [h] H H' → Q (.int g) H'
def sp_law_cells (K : PySem.W.Frag) : Sp := fun vs H Q _ => ∃ (a : Addr) (ns : List Int) (many : Int), vs = [.ref a, .int many] ∧ SqL K H a (ns.map V.int) ∧ ns.length ≤ 63 ∧ ∀ (D : Addr) (as : List Addr) (H2 : Hp), Same H H2 → H D = none → H2 D = some (.lst (as.map V.ref)) → as.length ≤ 64 →
  (∀ (j : Nat) (b : Addr), as[j]? = some b → ∃ c : Int, H2 b = some (.tup [.int j, .int c])) → Q (.ref D) H2
def sp_law_great (K : PySem.W.Frag) : Sp := fun vs H Q _ => ∃ (a : Addr) (ns : List Int), vs = [.ref a] ∧ SqL K H a (ns.map V.int) ∧ ∀ b, Q (.bl b) H
/-- the numbers of a row as the law draws it -/
structure RowN (ns : List Int) : Prop where
  ne : 1 ≤ ns.length
  le : ns.length ≤ 120
  nn : ∀ n ∈ ns, 0 ≤ n
  ub : ∀ n ∈ ns, n ≤ 1000000000000
def sp_law_row : Sp := fun vs H Q _ => ∃ (h : Addr) (long : Bool), vs = [.ref h, .bl long] ∧ HandAt H h ∧ ∀ (p : Addr) (ns : List Int) (H' : Hp), RowN ns → (long = true → 13 ≤ ns.length) → HandAt H' h → Kp [h] H H' → H' p = some (.lst (ns.map V.int)) → p ≠ h → H p = none → Q (.ref p) H'
end L2

namespace K
open PySem L2
structure Ecl where
  CutError : Addr
  NoMany : Addr
  NoPlace : Addr
  NoNumber : Addr
  NoText : Addr
  NoCommand : Addr
structure ErrT (K : PySem.W.Frag) (mg : Str → Option Value) (Z : Ecl) : Prop where
  x_CutError : ExC K mg "CutError" Z.CutError
  x_NoMany : ExC K mg "NoMany" Z.NoMany
  x_NoPlace : ExC K mg "NoPlace" Z.NoPlace
  x_NoNumber : ExC K mg "NoNumber" Z.NoNumber
  x_NoText : ExC K mg "NoText" Z.NoText
  x_NoCommand : ExC K mg "NoCommand" Z.NoCommand
  b_ValueError : mg "ValueError" = none
  i_NoMany_own : PySem.W.excIn K Z.NoMany bmV "ValueError.__new__" = true
  i_NoMany_cl : PySem.W.findIn K (.ref Z.NoMany) "__class__" = some (some (.builtin "object.__class__"))
  i_NoMany_ob : PySem.W.mroIn K Z.NoMany (.type "object") = some true
  i_NoMany_be : PySem.W.mroIn K Z.NoMany (.type "BaseException") = some true
  i_NoMany_ga : PySem.W.findIn K (.ref Z.NoMany) "__getattribute__" = some (some (.builtin "BaseException.__getattribute__"))
  i_NoMany_gn : PySem.W.findIn K (.ref Z.NoMany) "__getattr__" = some none
  m_NoMany_CutError : PySem.W.exmOne K (.ref Z.NoMany) (.ref Z.CutError) = some true
  k_NoMany_NoMany : PySem.W.kitOne K (.ref Z.NoMany) (.ref Z.NoMany) = some true
  k_NoMany_NoPlace : PySem.W.kitOne K (.ref Z.NoMany) (.ref Z.NoPlace) = some false
  k_NoMany_NoNumber : PySem.W.kitOne K (.ref Z.NoMany) (.ref Z.NoNumber) = some false
  k_NoMany_NoText : PySem.W.kitOne K (.ref Z.NoMany) (.ref Z.NoText) = some false
  k_NoMany_NoCommand : PySem.W.kitOne K (.ref Z.NoMany) (.ref Z.NoCommand) = some false
  k_NoMany_ValueError : PySem.W.kitOne K (.ref Z.NoMany) (.type "ValueError") = some true
  i_NoPlace_own : PySem.W.excIn K Z.NoPlace bmV "ValueError.__new__" = true
  i_NoPlace_cl : PySem.W.findIn K (.ref Z.NoPlace) "__class__" = some (some (.builtin "object.__class__"))
  i_NoPlace_ob : PySem.W.mroIn K Z.NoPlace (.type "object") = some true
  i_NoPlace_be : PySem.W.mroIn K Z.NoPlace (.type "BaseException") = some true
  i_NoPlace_ga : PySem.W.findIn K (.ref Z.NoPlace) "__getattribute__" = some (some (.builtin "BaseException.__getattribute__"))
  i_NoPlace_gn : PySem.W.findIn K (.ref Z.NoPlace) "__getattr__" = some none
  m_NoPlace_CutError : PySem.W.exmOne K (.ref Z.NoPlace) (.ref Z.CutError) = some true
  k_NoPlace_NoMany : PySem.W.kitOne K (.ref Z.NoPlace) (.ref Z.NoMany) = some false
  k_NoPlace_NoPlace : PySem.W.kitOne K (.ref Z.NoPlace) (.ref Z.NoPlace) = some true
  k_NoPlace_NoNumber : PySem.W.kitOne K (.ref Z.NoPlace) (.ref Z.NoNumber) = some false
  k_NoPlace_NoText : PySem.W.kitOne K (.ref Z.NoPlace) (.ref Z.NoText) = some false
  k_NoPlace_NoCommand : PySem.W.kitOne K (.ref Z.NoPlace) (.ref Z.NoCommand) = some false
  k_NoPlace_ValueError : PySem.W.kitOne K (.ref Z.NoPlace) (.type "ValueError") = some true
theorem ErrT.i_NoMany {K : PySem.W.Frag} {mg : Str → Option Value} {Z : Ecl} (Y : ErrT K mg Z) : ExI K Z.NoMany := ⟨Y.i_NoMany_own, Y.i_NoMany_cl, Y.i_NoMany_ob, Y.i_NoMany_be, Y.i_NoMany_ga, Y.i_NoMany_gn⟩
theorem ErrT.i_NoPlace {K : PySem.W.Frag} {mg : Str → Option Value} {Z : Ecl} (Y : ErrT K mg Z) : ExI K Z.NoPlace := ⟨Y.i_NoPlace_own, Y.i_NoPlace_cl, Y.i_NoPlace_ob, Y.i_NoPlace_be, Y.i_NoPlace_ga, Y.i_NoPlace_gn⟩
theorem boot_ValueError : bootBuiltins "ValueError" = some (.type "ValueError") := by decide +kernel
end K
namespace K
open PySem L2
def top (i : Nat) : Stmt := PySem.Challenge.pw_piecebounds_k16_no_cuts_of_that_number.main.body.getD i (.Pass ⟨0, 0, 0, 0⟩)
end K
set_option linter.all false
set_option Elab.async false
set_option maxRecDepth 100000
set_option maxHeartbeats 4000000
namespace K
open PySem L2
section
variable {C : Addr} {Z : Ecl} {P : Program} {w : World} {K : PySem.W.Frag} {mg : Str → Option Value} {base : Heap} {f : Addr} {fd : FuncData}

abbrev s_law_hand : Stmt := top 18
theorem sc_law_hand : FnScope ["cell", "k", "digits"] ["cell", "k"] (defScope s_law_hand) := ⟨rfl, rfl, rfl, by decide +kernel, rfl, by decide +kernel, by decide +kernel⟩
theorem l_law_hand_digits : Loc (defScope s_law_hand) "digits" := Or.inl (by kernel_rfl)
theorem v_law_hand_cell : Vis (defScope s_law_hand) "cell" := Or.inl (by kernel_rfl)
theorem v_law_hand_digits : Vis (defScope s_law_hand) "digits" := Or.inl (by kernel_rfl)
theorem v_law_hand_k : Vis (defScope s_law_hand) "k" := Or.inl (by kernel_rfl)
def t_law_hand {cdv : Value} {A : Around} {outer : List Env} {s : Shared} {H : Hp} {E : XK} (B : Bl mg) (hr : Room 0 (A.deeper (PyProof.Rows.envOfC "_law_hand" (defScope s_law_hand) s.heap.objs.size f cdv))) :
    { t : TS // QB (cxOf CX0 P w K mg base ["cell", "k", "digits"] "_law_hand" (defScope s_law_hand) f cdv A outer s H E).nox (defBody s_law_hand) t } :=
  ⟨_, (qb_cons (qs_set (i := 2) sc_law_hand.nd rfl l_law_hand_digits (.inl rfl) qe_int)
    (qb_mid (qs_if (qt_cmp opGe (qv 0 rfl v_law_hand_cell) (qe_op opPow qe_int qe_int)) (qb_one (qs_set (i := 2) sc_law_hand.nd rfl l_law_hand_digits (.inl rfl) (qv 0 rfl v_law_hand_cell))) qb_nil)
    (qb_one (qs_ret (qe_lst (qa_cons (qv 2 rfl v_law_hand_digits) (qa_cons (qe_op opMod (qe_op opMul (qe_op opAdd (qe_op opAdd (qe_op opMod (qv 0 rfl v_law_hand_cell) qe_int) (qe_op opMul qe_int (qv 1 rfl v_law_hand_k))) qe_int) qe_int) qe_int) qa_nil)))))))⟩
abbrev s_law_draw : Stmt := top 19
theorem sc_law_draw : FnScope ["hand", "limit", "got"] ["hand", "limit"] (defScope s_law_draw) := ⟨rfl, rfl, rfl, by decide +kernel, rfl, by decide +kernel, by decide +kernel⟩
theorem l_law_draw_got : Loc (defScope s_law_draw) "got" := Or.inl (by kernel_rfl)
theorem v_law_draw_got : Vis (defScope s_law_draw) "got" := Or.inl (by kernel_rfl)
theorem v_law_draw_hand : Vis (defScope s_law_draw) "hand" := Or.inl (by kernel_rfl)
theorem v_law_draw_limit : Vis (defScope s_law_draw) "limit" := Or.inl (by kernel_rfl)
def t_law_draw {cdv : Value} {A : Around} {outer : List Env} {s : Shared} {H : Hp} {E : XK} (B : Bl mg) (hr : Room 0 (A.deeper (PyProof.Rows.envOfC "_law_draw" (defScope s_law_draw) s.heap.objs.size f cdv))) :
    { t : TS // QB (cxOf CX0 P w K mg base ["hand", "limit", "got"] "_law_draw" (defScope s_law_draw) f cdv A outer s H E).nox (defBody s_law_draw) t } :=
  ⟨_, (qb_cons (qs_if (qt_cmp opGt (ke_ix (K := K) rfl (qv 0 rfl v_law_draw_hand) qe_int (fun _ _ => rfl)) qe_int) (qb_cons (qs_set (i := 2) sc_law_draw.nd rfl l_law_draw_got (.inl rfl) (qe_op opMod (ke_ix (K := K) rfl (qv 0 rfl v_law_draw_hand) qe_int (fun _ _ => rfl)) (qv 1 rfl v_law_draw_limit)))
    (qb_cons (qs_asg (qe_op opFdiv (ke_ix (K := K) rfl (qv 0 rfl v_law_draw_hand) qe_int (fun _ _ => rfl)) (qv 1 rfl v_law_draw_limit)) (qg_sub (qv 0 rfl v_law_draw_hand) qe_int setM))
    (qb_one (qs_ret (qv 2 rfl v_law_draw_got))))) qb_nil)
    (qb_cons (qs_asg (qe_op opMod (qe_op opAdd (qe_op opAdd (qe_op opMul (ke_ix (K := K) rfl (qv 0 rfl v_law_draw_hand) qe_int (fun _ _ => rfl)) (ke_ix (K := K) rfl (qv 0 rfl v_law_draw_hand) qe_int (fun _ _ => rfl))) (qe_op opMul qe_int (ke_ix (K := K) rfl (qv 0 rfl v_law_draw_hand) qe_int (fun _ _ => rfl)))) qe_int) qe_int) (qg_sub (qv 0 rfl v_law_draw_hand) qe_int setM))
    (qb_one (qs_ret (qe_op opMod (qe_op opFdiv (ke_ix (K := K) rfl (qv 0 rfl v_law_draw_hand) qe_int (fun _ _ => rfl)) qe_int) (qv 1 rfl v_law_draw_limit))))))⟩
abbrev s_law_great : Stmt := top 21
theorem sc_law_great : FnScope ["script"] ["script"] (defScope s_law_great) := ⟨rfl, rfl, rfl, by decide +kernel, rfl, by decide +kernel, by decide +kernel⟩
theorem v_law_great_script : Vis (defScope s_law_great) "script" := Or.inl (by kernel_rfl)
theorem g_law_great_sum : (defScope s_law_great).names.lookup ("sum" : Str) = some NameKind.globalImplicit := by kernel_rfl
def t_law_great {cdv : Value} {A : Around} {outer : List Env} {s : Shared} {H : Hp} {E : XK} (B : Bl mg) (hr : Room 0 (A.deeper (PyProof.Rows.envOfC "_law_great" (defScope s_law_great) s.heap.objs.size f cdv))) :
    { t : TS // QB (cxOf CX0 P w K mg base ["script"] "_law_great" (defScope s_law_great) f cdv A outer s H E).nox (defBody s_law_great) t } :=
  ⟨_, (qb_one (qs_ret (qe_cmp (kEqG (K := K) rfl hr) (qe_op opMod (qe_op opFdiv (qe_cB (kSum (K := K) rfl rfl) g_law_great_sum B.sum boot_sum' (qa_cons (qv 0 rfl v_law_great_script) qa_nil)) qe_int) qe_int) qe_int)))⟩
theorem pm : (0 : Int) < 2147483587 := by decide
theorem ok_law_hand (B : Bl mg) (F : Fun K "_law_hand" "_law_hand" s_law_hand f fd) : FnOk P w K mg base CX0 1 f fd ["cell", "k"] sp_law_hand := by
  refine F.okq sc_law_hand (fun vs H Q E h => ?_) (fun cdv A outer s H vs Q E hr h => ?_)
  · obtain ⟨c, k, rfl, _⟩ := h; rfl
  obtain ⟨c, k, rfl, h0, h1, q⟩ := h
  refine ⟨t_law_hand B hr, ?_⟩
  refine ⟨fun σ H' => H' = H ∧ ∃ d, 0 ≤ d ∧ σ = [some (.int c), some (.int k), some (.int d)], ?_, ?_⟩
  · refine ⟨⟨by decide, by decide, by decide⟩, dec2 (fun hc => ?_) (fun hc => ?_)⟩
    · exact ⟨rfl, c, Int.le_trans (by decide) hc, rfl⟩
    · exact ⟨rfl, 0, Int.le_refl 0, rfl⟩
  · rintro σ H' ⟨rfl, d, hd, rfl⟩
    refine ⟨pm, .inl ⟨by decide, by decide⟩, .inr ⟨by decide, by decide⟩, pm, ?_⟩
    refine i_newL (by show 2 ≤ sizeLine; decide) fun p H1 hp s1 e1 => q p H1 hp s1 ⟨_, _, e1, hd, Int.emod_nonneg _ (by decide), Int.emod_lt_of_pos _ (by decide)⟩
theorem ok_law_draw (B : Bl mg) (F : Fun K "_law_draw" "_law_draw" s_law_draw f fd) : FnOk P w K mg base CX0 1 f fd ["hand", "limit"] sp_law_draw := by
  refine F.okq sc_law_draw (fun vs H Q E h => ?_) (fun cdv A outer s H vs Q E hr h => ?_)
  · obtain ⟨a, lim, rfl, _⟩ := h; rfl
  obtain ⟨a, lim, rfl, ⟨d, m, hH, hh⟩, l0, l1, q⟩ := h
  refine ⟨t_law_draw B hr, ?_⟩
  refine i_ixN 0 hH rfl rfl (dec2 (fun c => ?_) (fun c => ?_))
  · refine i_ixN 0 hH rfl rfl ⟨l0, ?_⟩
    refine i_ixN 0 hH rfl rfl ⟨⟨l0, l1⟩, ?_⟩
    refine i_set 0 hH rfl (by simp) fun H1 k1 e1 => ?_
    exact q _ _ (Int.emod_nonneg _ (by omega)) (Int.emod_lt_of_pos _ l0) ⟨_, _, e1, Int.ediv_nonneg hh.d0 (by omega), hh.m0, hh.m1⟩ k1
  · refine i_ixN 1 hH rfl rfl (i_ixN 1 hH rfl rfl ⟨.inl ⟨by have := hh.m0; omega, by have := hh.m1; omega⟩, ?_⟩)
    refine i_ixN 1 hH rfl rfl ⟨.inl ⟨by decide, by decide⟩, pm, ?_⟩
    refine i_set 1 hH rfl (by simp) fun H1 k1 e1 => ?_
    refine i_ixN 1 e1 rfl rfl ⟨⟨by decide, by decide⟩, l0, ?_⟩
    exact q _ _ (Int.emod_nonneg _ (by omega)) (Int.emod_lt_of_pos _ l0) ⟨_, _, e1, hh.d0, Int.emod_nonneg _ (by decide), Int.emod_lt_of_pos _ (by decide)⟩ k1
theorem ok_law_great (B : Bl mg) (F : Fun K "_law_great" "_law_great" s_law_great f fd) : FnOk P w K mg base CX0 1 f fd ["script"] (sp_law_great K) := by
  refine F.okq sc_law_great (fun vs H Q E h => ?_) (fun cdv A outer s H vs Q E hr h => ?_)
  · obtain ⟨a, ns, rfl, _⟩ := h; rfl
  obtain ⟨a, ns, rfl, hS, q⟩ := h
  refine ⟨t_law_great B hr, ?_⟩
  exact i_sum hS ⟨⟨by decide, by decide⟩, by decide, q _⟩

abbrev s_law_row : Stmt := top 22
theorem sc_law_row : FnScope ["hand", "long", "many", "reach", "kind", "row"] ["hand", "long"] (defScope s_law_row) := ⟨rfl, rfl, rfl, by decide +kernel, rfl, by decide +kernel, by decide +kernel⟩
theorem l_law_row_kind : Loc (defScope s_law_row) "kind" := Or.inl (by kernel_rfl)
theorem l_law_row_many : Loc (defScope s_law_row) "many" := Or.inl (by kernel_rfl)
theorem l_law_row_reach : Loc (defScope s_law_row) "reach" := Or.inr (by kernel_rfl)
theorem l_law_row_row : Loc (defScope s_law_row) "row" := Or.inl (by kernel_rfl)
theorem v_law_row_hand : Vis (defScope s_law_row) "hand" := Or.inr (Or.inl (by kernel_rfl))
theorem v_law_row_kind : Vis (defScope s_law_row) "kind" := Or.inl (by kernel_rfl)
theorem v_law_row_long : Vis (defScope s_law_row) "long" := Or.inl (by kernel_rfl)
theorem v_law_row_many : Vis (defScope s_law_row) "many" := Or.inl (by kernel_rfl)
theorem v_law_row_row : Vis (defScope s_law_row) "row" := Or.inl (by kernel_rfl)
theorem g_law_row__law_draw : (defScope s_law_row).names.lookup ("_law_draw" : Str) = some NameKind.globalImplicit := by kernel_rfl
theorem g_law_row_range : (defScope s_law_row).names.lookup ("range" : Str) = some NameKind.globalImplicit := by kernel_rfl
theorem g_law_row_sorted : (defScope s_law_row).names.lookup ("sorted" : Str) = some NameKind.globalImplicit := by kernel_rfl
def t_law_row {cdv : Value} {A : Around} {outer : List Env} {s : Shared} {H : Hp} {E : XK} (B : Bl mg) (D_law_draw : Def P w K mg base 1 "_law_draw" ["hand", "limit"] sp_law_draw) (hr : Room 1 (A.deeper (PyProof.Rows.envOfC "_law_row" (defScope s_law_row) s.heap.objs.size f cdv))) :
    { t : TS // QB (cxOf CX0 P w K mg base ["hand", "long", "many", "reach", "kind", "row"] "_law_row" (defScope s_law_row) f cdv A outer s H E).nox (defBody s_law_row) t } :=
  ⟨_, (qb_cons (qs_set (i := 2) sc_law_row.nd rfl l_law_row_many (.inl rfl) (qe_op opAdd qe_int (qe_def D_law_draw hr (by decide) g_law_row__law_draw (qa_cons (qv 0 rfl v_law_row_hand) (qa_cons (ke_ix (K := K) rfl (qe_lst (qa_cons qe_int (qa_cons qe_int qa_nil))) (qe_def D_law_draw hr (by decide) g_law_row__law_draw (qa_cons (qv 0 rfl v_law_row_hand) (qa_cons qe_int qa_nil))) (fun _ _ => rfl)) qa_nil)))))
    (qb_mid (qs_if (kt_val (K := K) rfl (qv 1 rfl v_law_row_long)) (qb_one (qs_set (i := 2) sc_law_row.nd rfl l_law_row_many (.inl rfl) (ke_ix (K := K) rfl (qe_lst (qa_cons (qe_op opAdd qe_int (qe_def D_law_draw hr (by decide) g_law_row__law_draw (qa_cons (qv 0 rfl v_law_row_hand) (qa_cons qe_int qa_nil)))) (qa_cons (qe_op opAdd qe_int (qe_def D_law_draw hr (by decide) g_law_row__law_draw (qa_cons (qv 0 rfl v_law_row_hand) (qa_cons qe_int qa_nil)))) qa_nil))) (qe_def D_law_draw hr (by decide) g_law_row__law_draw (qa_cons (qv 0 rfl v_law_row_hand) (qa_cons qe_int qa_nil))) (fun _ _ => rfl)))) qb_nil)
    (qb_cons (qs_set (i := 3) sc_law_row.nd rfl l_law_row_reach (.inl rfl) (ke_ix (K := K) rfl (qe_lst (qa_cons qe_int (qa_cons qe_int (qa_cons qe_int (qa_cons qe_int (qa_cons (qe_op opPow qe_int qe_int) qa_nil)))))) (qe_def D_law_draw hr (by decide) g_law_row__law_draw (qa_cons (qv 0 rfl v_law_row_hand) (qa_cons qe_int qa_nil))) (fun _ _ => rfl)))
    (qb_cons (qs_set (i := 4) sc_law_row.nd rfl l_law_row_kind (.inl rfl) (qe_def D_law_draw hr (by decide) g_law_row__law_draw (qa_cons (qv 0 rfl v_law_row_hand) (qa_cons qe_int qa_nil))))
    (qb_cons (qs_cp ["k", "hand", "reach"] [none, some 0, some 3] (i := 5) rfl sc_law_row.nd rfl l_law_row_row (.inl rfl) (qi_r1 g_law_row_range B.range (qa_cons (qv 2 rfl v_law_row_many) qa_nil)) (fun _ _ _ _ _ _ => (qg_name (i := 0) (show (["k", "hand", "reach"] : List Str).Nodup by decide +kernel) rfl (by first | exact Or.inl rfl | exact Or.inr rfl) (by first | exact .inl rfl | exact .inr rfl))) (fun _ _ _ _ _ _ => qif_nil) (fun _ _ _ _ _ _ => (qe_def D_law_draw hr (by decide) rfl (qa_cons (qv 1 rfl (by first | exact Or.inl rfl | exact Or.inr (Or.inl rfl) | exact Or.inr (Or.inr rfl))) (qa_cons (qe_op opAdd (qv 2 rfl (by first | exact Or.inl rfl | exact Or.inr (Or.inl rfl) | exact Or.inr (Or.inr rfl))) qe_int) qa_nil)))))
    (qb_cons (qs_if (qt_cmp (kEqG (K := K) rfl hr) (qv 4 rfl v_law_row_kind) qe_int) (qb_one (qs_ret (qe_op opMul (qe_lst (qa_cons (ke_ix (K := K) rfl (qv 5 rfl v_law_row_row) qe_int (fun _ _ => rfl)) qa_nil)) (qv 2 rfl v_law_row_many)))) qb_nil)
    (qb_cons (qs_if (qt_cmp (kEqG (K := K) rfl hr) (qv 4 rfl v_law_row_kind) qe_int) (qb_one (qs_ret (qe_cp ["number", "hand"] [none, some 0] rfl (ki_list (K := K) rfl (qv 5 rfl v_law_row_row)) (fun _ _ _ _ _ _ => (qg_name (i := 0) (show (["number", "hand"] : List Str).Nodup by decide +kernel) rfl (by first | exact Or.inl rfl | exact Or.inr rfl) (by first | exact .inl rfl | exact .inr rfl))) (fun _ _ _ _ _ _ => qif_nil) (fun _ _ _ _ _ _ => (qe_op opMul (qv 0 rfl (by first | exact Or.inl rfl | exact Or.inr (Or.inl rfl) | exact Or.inr (Or.inr rfl))) (qe_def D_law_draw hr (by decide) rfl (qa_cons (qv 1 rfl (by first | exact Or.inl rfl | exact Or.inr (Or.inl rfl) | exact Or.inr (Or.inr rfl))) (qa_cons qe_int qa_nil)))))))) qb_nil)
    (qb_cons (qs_if (qt_cmp (kEqG (K := K) rfl hr) (qv 4 rfl v_law_row_kind) qe_int) (qb_one (qs_ret (qe_cB (kSorted (K := K) rfl) g_law_row_sorted B.sorted boot_sorted' (qa_cons (qv 5 rfl v_law_row_row) qa_nil)))) qb_nil)
    (qb_mid (qs_if (qt_cmp (kEqG (K := K) rfl hr) (qv 4 rfl v_law_row_kind) qe_int) (qb_one (qs_asg (qe_op opSub (qe_op opPow qe_int qe_int) (qe_def D_law_draw hr (by decide) g_law_row__law_draw (qa_cons (qv 0 rfl v_law_row_hand) (qa_cons qe_int qa_nil)))) (qg_sub (qv 5 rfl v_law_row_row) (qe_def D_law_draw hr (by decide) g_law_row__law_draw (qa_cons (qv 0 rfl v_law_row_hand) (qa_cons (qv 2 rfl v_law_row_many) qa_nil))) setM))) qb_nil)
    (qb_one (qs_ret (qv 5 rfl v_law_row_row))))))))))))⟩
theorem atInts {ns : List Int} {g : Int} (h0 : 0 ≤ g) (h1 : g < ns.length) : ns.getD g.toNat 0 ∈ ns := by
  have hk : g.toNat < ns.length := by omega
  rw [List.getD_eq_getElem?_getD, List.getElem?_eq_getElem hk]
  exact List.getElem_mem hk
theorem at2 {x y : V} {g : Int} (h0 : 0 ≤ g) (h1 : g < 2) : atI [x, y] g = some (if g = 0 then x else y) := by
  have : g = 0 ∨ g = 1 := by omega
  rcases this with rfl | rfl <;> rfl
theorem at5 {g : Int} (h0 : 0 ≤ g) (h1 : g < 5) : ∃ reach : Int, atI [V.int 1, V.int 2, V.int 9, V.int 1000, V.int (10 ^ Int.toNat 12)] g = some (.int reach) ∧ 0 ≤ reach ∧ reach ≤ 1000000000000 := by
  have : g = 0 ∨ g = 1 ∨ g = 2 ∨ g = 3 ∨ g = 4 := by omega
  rcases this with rfl | rfl | rfl | rfl | rfl
  · exact ⟨1, rfl, by decide, by decide⟩
  · exact ⟨2, rfl, by decide, by decide⟩
  · exact ⟨9, rfl, by decide, by decide⟩
  · exact ⟨1000, rfl, by decide, by decide⟩
  · exact ⟨10 ^ 12, rfl, by decide, by decide⟩
theorem ok_law_row (B : Bl mg) (D_law_draw : Def P w K mg base 1 "_law_draw" ["hand", "limit"] sp_law_draw) (F : Fun K "_law_row" "_law_row" s_law_row f fd) : FnOk P w K mg base CX0 2 f fd ["hand", "long"] sp_law_row := by
  refine F.okq sc_law_row (fun vs H Q E h => ?_) (fun cdv A outer s H vs Q E hr h => ?_)
  · obtain ⟨a, l, rfl, _⟩ := h; rfl
  obtain ⟨a, l, rfl, hh, q⟩ := h
  refine ⟨t_law_row B D_law_draw hr, ?_⟩
  refine i_newL (by show 2 ≤ sizeLine; decide) fun p1 H1 hp1 s1 e1 => ?_
  refine ⟨a, 2, rfl, hh.same s1, by decide, by decide, fun g1 H2 g10 g11 hh2 k2 => ?_⟩
  have n1 : p1 ≠ a := (hh.ne hp1).symm
  refine i_ix (.inl (SqL.of (k2.one n1 e1))) (at2 g10 g11) ?_
  have hlim : ∃ lim : Int, (if g1 = 0 then V.int 4 else V.int 12) = .int lim ∧ 0 < lim ∧ lim ≤ 12 := by
    by_cases z : g1 = 0
    · exact ⟨4, by rw [if_pos z], by decide, by decide⟩
    · exact ⟨12, by rw [if_neg z], by decide, by decide⟩
  obtain ⟨lim, elim, lim0, lim1⟩ := hlim
  rw [elim]
  refine ⟨a, lim, rfl, hh2, lim0, by omega, fun g2 H3 g20 g21 hh3 k3 => ?_⟩
  have kk : Kp [a] H H3 := (s1.kp.trans k2).trans k3
  refine ⟨fun σ H' => ∃ many : Int, 1 ≤ many ∧ many ≤ 120 ∧ (l = true → 13 ≤ many) ∧ HandAt H' a ∧ Kp [a] H H' ∧ σ = [some (.ref a), some (.bl l), some (.int many), none, none, none], ?_, ?_⟩
  · refine b2 (fun hc => ?_) (fun hc => ?_)
    · refine ⟨a, 108, rfl, hh3, by decide, by decide, fun g4 H4 g40 g41 hh4 k4 => ?_⟩
      refine ⟨a, 11, rfl, hh4, by decide, by decide, fun g5 H5 g50 g51 hh5 k5 => ?_⟩
      refine i_newL (by show 2 ≤ sizeLine; decide) fun p6 H6 hp6 s6 e6 => ?_
      refine ⟨a, 2, rfl, hh5.same s6, by decide, by decide, fun g7 H7 g70 g71 hh7 k7 => ?_⟩
      have n6 : p6 ≠ a := (hh5.ne hp6).symm
      refine i_ix (.inl (SqL.of (k7.one n6 e6))) (at2 g70 g71) ?_
      refine ⟨if g7 = 0 then 13 + g4 else 110 + g5, by split <;> omega, by split <;> omega, fun _ => by split <;> omega, hh7, ((kk.trans k4).trans k5).trans (s6.kp.trans k7), ?_⟩
      by_cases z : g7 = 0
      · rw [if_pos z, if_pos z]; rfl
      · rw [if_neg z, if_neg z]; rfl
    · exact ⟨1 + g2, by omega, by omega, fun z => absurd (z.symm.trans hc) (by decide), hh3, kk, rfl⟩
  rintro σ H3 ⟨many, m0, m1, m13, hh3, kk, rfl⟩
  refine ⟨⟨by decide, by decide, by decide⟩, ?_⟩
  refine i_newL (by show 5 ≤ sizeLine; decide) fun p4 H4 hp4 s4 e4 => ?_
  refine ⟨a, 5, rfl, hh3.same s4, by decide, by decide, fun g5 H5 g50 g51 hh5 k5 => ?_⟩
  have n4 : p4 ≠ a := (hh3.ne hp4).symm
  obtain ⟨reach, er, r0, r1⟩ := at5 g50 g51
  refine i_ix (.inl (SqL.of (k5.one n4 e4))) er ?_
  refine ⟨a, 6, rfl, hh5, by decide, by decide, fun kind H6 kd0 kd1 hh6 k6 => ?_⟩
  have kk6 : Kp [a] H H6 := ((kk.same s4).trans k5).trans k6
  refine ⟨⟨by omega, by omega⟩, comp_rng (fun i D σ H' ys => ∃ zs : List Int, ys = zs.map V.int ∧ zs.length = i ∧ (∀ z ∈ zs, 0 ≤ z ∧ z ≤ reach) ∧ HandAt H' a ∧ Kp [a] H6 H' ∧ ∃ o, σ = [o, some (.ref a), some (.int reach)]) ?_ ?_ ?_⟩
  · intro D H' hD s' e'
    exact ⟨[], rfl, rfl, (by simp), hh6.same s', s'.kp, _, rfl⟩
  · rintro i D σ H' ys hi hD ⟨zs, rfl, hl, hz, hh', k', o, rfl⟩ e'
    have nD : D ≠ a := (hh6.ne hD).symm
    refine bT ⟨a, reach + 1, rfl, hh', by omega, by omega, fun g H7 g0 g1 hh7 k7 => ?_⟩
    refine ⟨k7.one nD e', sz_lt (by rw [List.length_map]; omega), fun H8 k8 e8 => ⟨zs ++ [g], map_snoc zs g, by simp [hl], ?_, hh7.kp k8 (by simp [Ne.symm nD]), (k'.trans k7).new k8 hD, _, rfl⟩⟩
    intro z hz'
    rcases List.mem_append.mp hz' with hz' | hz'
    · exact hz z hz'
    · have : z = g := by simpa using hz'
      subst this; exact ⟨g0, by omega⟩
  rintro r σ H7 ys hr0 ⟨zs, rfl, hl, hz, hh7, k7, _⟩ e7
  have hl' : (zs.length : Int) = many := by omega
  have kk7 := kk6.trans k7
  have nr : r ≠ a := (hh6.ne hr0).symm
  have hr1 : H r = none := by
    refine kk6.free (by simpa using nr) hr0
  have l13 : ∀ ns : List Int, ns.length = zs.length → l = true → 13 ≤ ns.length := fun ns h1 h2 => by have := m13 h2; omega
  have rowN : ∀ ns : List Int, ns.length = zs.length → (∀ z ∈ ns, 0 ≤ z ∧ z ≤ 1000000000000) → RowN ns := fun ns h1 h2 => ⟨by omega, by omega, fun n hn => (h2 n hn).1, fun n hn => (h2 n hn).2⟩
  refine dec2 (fun c => ?_) (fun c => ?_)
  · refine i_ixI e7 (Int.le_refl 0) (by omega) (i_newL (by show 1 ≤ sizeLine; decide) fun p8 H8 hp8 s8 e8 => ?_)
    refine i_rep1 e8 (by omega) (by omega) fun p9 H9 hp9 s9 e9 => ?_
    have h9 : H7 p9 = none := s8.free hp9
    have n9 : p9 ≠ a := (hh7.ne h9).symm
    refine q p9 _ H9 (rowN _ (by rw [List.length_replicate]; omega) fun z hz' => ?_) (l13 _ (by rw [List.length_replicate]; omega)) ((hh7.same s8).same s9) ((kk7.same s8).same s9) e9 n9 (kk7.free (by simpa using n9) h9)
    rw [List.eq_of_mem_replicate hz']
    have := hz _ (atInts (ns := zs) (Int.le_refl 0) (by omega))
    exact ⟨this.1, by have := this.2; omega⟩
  refine dec2 (fun c => ?_) (fun c => ?_)
  · refine ⟨⟨_, SqL.of e7⟩, comp_lst (zs.map V.int) (fun i D σ H' ys => ∃ ws : List Int, ys = ws.map V.int ∧ ws.length = i ∧ (∀ z ∈ ws, 0 ≤ z ∧ z ≤ reach) ∧ HandAt H' a ∧ Kp [a] H7 H' ∧ ∃ o, σ = [o, some (.ref a)]) ?_ ?_ ?_ ?_⟩
    · intro D H' hD s' e'
      exact ⟨[], rfl, rfl, (by simp), hh7.same s', s'.kp, _, rfl⟩
    · rintro i D σ H' ys hD ⟨ws, _, _, _, _, k', _⟩
      exact SqL.of (k'.one nr e7)
    · rintro i x D σ H' ys hx hD ⟨ws, rfl, hlw, hw, hh', k', o, rfl⟩ e'
      obtain ⟨z, rfl, hz1, hz2⟩ := vints_at hx
      have hi : i < zs.length := (List.getElem?_eq_some_iff.mp hz1).1
      have nD : D ≠ a := (hh7.ne hD).symm
      refine bT ⟨a, 2, rfl, hh', by decide, by decide, fun g H8 g0 g1 hh8 k8 => ⟨.inr ⟨by omega, by omega⟩, ?_⟩⟩
      refine ⟨k8.one nD e', sz_lt (by rw [List.length_map]; omega), fun H9 k9 e9 => ⟨ws ++ [z * g], map_snoc ws _, by simp [hlw], ?_, hh8.kp k9 (by simp [Ne.symm nD]), (k'.trans k8).new k9 hD, _, rfl⟩⟩
      intro y hy
      rcases List.mem_append.mp hy with hy | hy
      · exact hw y hy
      · have : y = z * g := by simpa using hy
        subst this
        have hzz := hz z hz2
        have : g = 0 ∨ g = 1 := by omega
        rcases this with rfl | rfl <;> omega
    · rintro D σ H8 ys hD ⟨ws, rfl, hlw, hw, hh8, k8, _⟩ e8
      rw [List.length_map] at hlw
      have nD : D ≠ a := (hh7.ne hD).symm
      exact q D ws H8 (rowN _ hlw fun z hz' => ⟨(hw z hz').1, by have := (hw z hz').2; omega⟩) (l13 _ hlw) hh8 (kk7.trans k8) e8 nD (kk7.free (by simpa using nD) hD)
  refine dec2 (fun c => ?_) (fun c => ?_)
  · refine i_sorted (SqL.of e7) (by omega) fun p8 H8 ns' hperm hp8 s8 e8 => ?_
    have n8 : p8 ≠ a := (hh7.ne hp8).symm
    exact q p8 ns' H8 (rowN _ hperm.length_eq fun z hz' => have := hz z (hperm.mem_iff.mp hz'); ⟨this.1, by have := this.2; omega⟩) (l13 _ hperm.length_eq) (hh7.same s8) (kk7.same s8) e8 n8 (kk7.free (by simpa using n8) hp8)
  refine ⟨fun σ H' => ∃ ns : List Int, ns.length = zs.length ∧ (∀ z ∈ ns, 0 ≤ z ∧ z ≤ 1000000000000) ∧ HandAt H' a ∧ Kp [a] H H' ∧ H' r = some (.lst (ns.map V.int)) ∧ σ = [some (.ref a), some (.bl l), some (.int many), some (.int reach), some (.int kind), some (.ref r)], ?_, ?_⟩
  · refine dec2 (fun c => ?_) (fun c => ?_)
    · refine ⟨⟨by decide, by decide, by decide⟩, a, 9, rfl, hh7, by decide, by decide, fun g H8 g0 g1 hh8 k8 => ?_⟩
      refine ⟨a, many, rfl, hh8, by omega, by omega, fun j H9 j0 j1 hh9 k9 => ?_⟩
      have e9 := k9.one nr (k8.one nr e7)
      refine i_set j.toNat e9 (by omega) (by rw [List.length_map]; omega) fun H10 k10 e10 => ?_
      refine ⟨zs.set j.toNat (10 ^ 12 - g), by simp, fun z hz' => ?_, hh9.kp k10 (by simp [Ne.symm nr]), ((kk7.trans k8).trans k9).new k10 hr1, ?_, rfl⟩
      · rcases List.mem_or_eq_of_mem_set hz' with hz' | rfl
        · have := hz z hz'; exact ⟨this.1, by have := this.2; omega⟩
        · omega
      · rw [e10, List.map_set]; rfl
    · exact ⟨zs, rfl, fun z hz' => have := hz z hz'; ⟨this.1, by have := this.2; omega⟩, hh7, kk7, e7, rfl⟩
  · rintro σ H8 ⟨ns, h1, h2, hh8, k8, e8, rfl⟩
    exact q r ns H8 (rowN ns h1 h2) (l13 _ h1) hh8 k8 e8 nr hr1

abbrev s_law_cells : Stmt := top 20
theorem sc_law_cells : FnScope ["script", "many"] ["script", "many"] (defScope s_law_cells) := ⟨rfl, rfl, rfl, by decide +kernel, rfl, by decide +kernel, by decide +kernel⟩
theorem v_law_cells_many : Vis (defScope s_law_cells) "many" := Or.inl (by kernel_rfl)
theorem v_law_cells_script : Vis (defScope s_law_cells) "script" := Or.inl (by kernel_rfl)
theorem g_law_cells_enumerate : (defScope s_law_cells).names.lookup ("enumerate" : Str) = some NameKind.globalImplicit := by kernel_rfl
theorem g_law_cells_int : (defScope s_law_cells).names.lookup ("int" : Str) = some NameKind.globalImplicit := by kernel_rfl
theorem g_law_cells_list : (defScope s_law_cells).names.lookup ("list" : Str) = some NameKind.globalImplicit := by kernel_rfl
def t_law_cells {cdv : Value} {A : Around} {outer : List Env} {s : Shared} {H : Hp} {E : XK} (B : Bl mg) (hr : Room 0 (A.deeper (PyProof.Rows.envOfC "_law_cells" (defScope s_law_cells) s.heap.objs.size f cdv))) :
    { t : TS // QB (cxOf CX0 P w K mg base ["script", "many"] "_law_cells" (defScope s_law_cells) f cdv A outer s H E).nox (defBody s_law_cells) t } :=
  ⟨_, (qb_one (qs_ret (ke_enumL (K := K) rfl rfl g_law_cells_list B.list g_law_cells_enumerate B.enumerate (qa_cons (qe_op opAdd (ke_slice (K := K) rfl (qv 0 rfl v_law_cells_script) qo_none (qo_some (qv 1 rfl v_law_cells_many))) (qe_op opMul (qe_lst (qa_cons qe_int qa_nil)) (qe_cT callInt g_law_cells_int B.int boot_int (qa_cons (qe_cmp (kEqG (K := K) rfl hr) (qv 0 rfl v_law_cells_script) (qe_lst qa_nil)) qa_nil)))) qa_nil))))⟩
theorem cutV_ints (ns : List Int) (lo hi : Option Int) : cutV (ns.map V.int) lo hi = ((ns.drop (HT.sIx ns.length 0 lo)).take (HT.sIx ns.length ns.length hi - HT.sIx ns.length 0 lo)).map V.int := by
  unfold cutV
  rw [List.length_map, List.map_take, List.map_drop]
theorem ok_law_cells (B : Bl mg) (F : Fun K "_law_cells" "_law_cells" s_law_cells f fd) : FnOk P w K mg base CX0 1 f fd ["script", "many"] (sp_law_cells K) := by
  refine F.okq sc_law_cells (fun vs H Q E h => ?_) (fun cdv A outer s H vs Q E hr h => ?_)
  · obtain ⟨a, ns, many, rfl, _⟩ := h; rfl
  obtain ⟨a, ns, many, rfl, hS, h63, q⟩ := h
  refine ⟨t_law_cells B hr, ?_⟩
  refine i_sl hS fun p1 H1 hp1 s1 e1 => ?_
  refine i_newL (by show 1 ≤ sizeLine; decide) fun p2 H2 hp2 s2 e2 => ?_
  refine i_newL (by show 0 ≤ sizeLine; decide) fun p3 H3 hp3 s3 e3 => ?_
  refine i_eqI (ns := ns) (ms := []) (s3.seq (s2.seq (s1.seq hS))) (SqL.of e3) ?_
  rw [cutV_ints] at e1
  have hml : ((ns.drop (HT.sIx ns.length 0 none)).take (HT.sIx ns.length ns.length (some many) - HT.sIx ns.length 0 none)).length ≤ 63 := by
    rw [List.length_take, List.length_drop]; omega
  generalize (ns.drop (HT.sIx ns.length 0 none)).take (HT.sIx ns.length ns.length (some many) - HT.sIx ns.length 0 none) = ms at e1 hml
  refine i_rep1 (s3 _ _ e2) (by split <;> omega) (by split <;> omega) fun p4 H4 hp4 s4 e4 => ?_
  have hk : (List.replicate (if id (decide (ns = [])) = true then (1 : Int) else 0).toNat (0 : Int)).length ≤ 1 := by
    rw [List.length_replicate]; split <;> decide
  generalize List.replicate (if id (decide (ns = [])) = true then (1 : Int) else 0).toNat (0 : Int) = zs at e4 hk
  refine i_cat (s4 _ _ (s3 _ _ (s2 _ _ e1))) e4 (sz_of (by simp only [List.length_map]; omega)) fun p5 H5 hp5 s5 e5 => ?_
  rw [← List.map_append] at e5
  have hl : (ms ++ zs).length ≤ 64 := by rw [List.length_append]; omega
  generalize ms ++ zs = ts at e5 hl
  refine ⟨p5, _, rfl, SqL.of e5, fun D as H9 s9 hD0 hD hlen hpair => ?_⟩
  rw [List.length_map] at hlen
  refine q D as H9 (s1.trans (s2.trans (s3.trans (s4.trans (s5.trans s9))))) ((s1.trans (s2.trans (s3.trans (s4.trans s5)))).free hD0) hD (by omega) fun j b hb => ?_
  have hj : j < ts.length := by rw [← hlen]; exact (List.getElem?_eq_some_iff.mp hb).1
  obtain ⟨b', hb', z⟩ := hpair j (.int ts[j]) (by rw [List.getElem?_map, List.getElem?_eq_getElem hj]; rfl)
  rw [hb] at hb'
  cases hb'
  exact ⟨_, z⟩

end
end K

set_option linter.all false
set_option Elab.async false
set_option maxRecDepth 100000
set_option maxHeartbeats 4000000
namespace K
open PySem L2
section
variable {C : Addr} {Z : Ecl} {P : Program} {w : World} {K : PySem.W.Frag} {mg : Str → Option Value} {base : Heap} {f : Addr} {fd : FuncData}

abbrev s_is_whole : Stmt := top 8
theorem sc_is_whole : FnScope ["thing"] ["thing"] (defScope s_is_whole) := ⟨rfl, rfl, rfl, by decide +kernel, rfl, by decide +kernel, by decide +kernel⟩
theorem v_is_whole_thing : Vis (defScope s_is_whole) "thing" := Or.inl (by kernel_rfl)
theorem g_is_whole_bool : (defScope s_is_whole).names.lookup ("bool" : Str) = some NameKind.globalImplicit := by kernel_rfl
theorem g_is_whole_int : (defScope s_is_whole).names.lookup ("int" : Str) = some NameKind.globalImplicit := by kernel_rfl
theorem g_is_whole_isinstance : (defScope s_is_whole).names.lookup ("isinstance" : Str) = some NameKind.globalImplicit := by kernel_rfl
def t_is_whole {cdv : Value} {A : Around} {outer : List Env} {s : Shared} {H : Hp} {E : XK} (B : Bl mg) (hr : Room 0 (A.deeper (PyProof.Rows.envOfC "is_whole" (defScope s_is_whole) s.heap.objs.size f cdv))) :
    { t : TS // QB (cxOf CX0 P w K mg base ["thing"] "is_whole" (defScope s_is_whole) f cdv A outer s H E).nox (defBody s_is_whole) t } :=
  ⟨_, (qb_one (qs_ret (ke_and (K := K) rfl (qe_cB (kIsiG (K := K) rfl) g_is_whole_isinstance B.isinstance boot_isinstance' (qa_cons (qv 0 rfl v_is_whole_thing) (qa_cons (qe_ty g_is_whole_int B.int boot_int) qa_nil))) (qe_one (ke_not (K := K) rfl (qe_cB (kIsiG (K := K) rfl) g_is_whole_isinstance B.isinstance boot_isinstance' (qa_cons (qv 0 rfl v_is_whole_thing) (qa_cons (qe_ty g_is_whole_bool B.bool boot_bool) qa_nil))))))))⟩
abbrev s_is_within : Stmt := top 9
theorem sc_is_within : FnScope ["thing", "low", "high"] ["thing", "low", "high"] (defScope s_is_within) := ⟨rfl, rfl, rfl, by decide +kernel, rfl, by decide +kernel, by decide +kernel⟩
theorem v_is_within_high : Vis (defScope s_is_within) "high" := Or.inl (by kernel_rfl)
theorem v_is_within_low : Vis (defScope s_is_within) "low" := Or.inl (by kernel_rfl)
theorem v_is_within_thing : Vis (defScope s_is_within) "thing" := Or.inl (by kernel_rfl)
theorem g_is_within_is_whole : (defScope s_is_within).names.lookup ("is_whole" : Str) = some NameKind.globalImplicit := by kernel_rfl
def t_is_within {cdv : Value} {A : Around} {outer : List Env} {s : Shared} {H : Hp} {E : XK} (B : Bl mg) (D_is_whole : Def P w K mg base 1 "is_whole" ["thing"] sp_is_whole) (hr : Room 1 (A.deeper (PyProof.Rows.envOfC "is_within" (defScope s_is_within) s.heap.objs.size f cdv))) :
    { t : TS // QB (cxOf CX0 P w K mg base ["thing", "low", "high"] "is_within" (defScope s_is_within) f cdv A outer s H E).nox (defBody s_is_within) t } :=
  ⟨_, (qb_one (qs_ret (ke_and (K := K) rfl (qe_def D_is_whole hr (by decide) g_is_within_is_whole (qa_cons (qv 0 rfl v_is_within_thing) qa_nil)) (qe_one (qe_chain opLe opLe (qv 1 rfl v_is_within_low) (qv 0 rfl v_is_within_thing) (qv 2 rfl v_is_within_high))))))⟩
abbrev s_check_many : Stmt := top 10
theorem sc_check_many : FnScope ["row", "many"] ["row", "many"] (defScope s_check_many) := ⟨rfl, rfl, rfl, by decide +kernel, rfl, by decide +kernel, by decide +kernel⟩
theorem v_check_many_many : Vis (defScope s_check_many) "many" := Or.inl (by kernel_rfl)
theorem v_check_many_row : Vis (defScope s_check_many) "row" := Or.inl (by kernel_rfl)
theorem g_check_many_NoMany : (defScope s_check_many).names.lookup ("NoMany" : Str) = some NameKind.globalImplicit := by kernel_rfl
theorem g_check_many_is_within : (defScope s_check_many).names.lookup ("is_within" : Str) = some NameKind.globalImplicit := by kernel_rfl
theorem g_check_many_len : (defScope s_check_many).names.lookup ("len" : Str) = some NameKind.globalImplicit := by kernel_rfl
def t_check_many {cdv : Value} {A : Around} {outer : List Env} {s : Shared} {H : Hp} {E : XK} (B : Bl mg) (Y : ErrT K mg Z) (D_is_within : Def P w K mg base 2 "is_within" ["thing", "low", "high"] sp_is_within) (hr : Room 2 (A.deeper (PyProof.Rows.envOfC "check_many" (defScope s_check_many) s.heap.objs.size f cdv))) :
    { t : TS // QB (cxE P w K mg base ["row", "many"] "check_many" (defScope s_check_many) f cdv A outer s H E) (defBody s_check_many) t } :=
  ⟨_, (qb_one (qs_if (qt_not (kt_val (K := K) rfl (qe_def D_is_within hr (by decide) g_check_many_is_within (qa_cons (qv 1 rfl v_check_many_many) (qa_cons qe_int (qa_cons (qe_cB (kLen (K := K) rfl) g_check_many_len B.len boot_len' (qa_cons (qv 0 rfl v_check_many_row) qa_nil)) qa_nil)))))) (qb_one (qs_raise raises_cxE rfl g_check_many_NoMany Y.x_NoMany (qa_cons qe_str qa_nil))) qb_nil))⟩
/-- what is no number of pieces of a row of n -/
def NoM (H : Hp) (n : Nat) (x : V) : Prop := Odd H x ∨ ∃ m : Int, x = .int m ∧ ¬ (1 ≤ m ∧ m ≤ n)
theorem NoM.same {H H' : Hp} {n : Nat} {x : V} (s : Same H H') (h : NoM H n x) : NoM H' n x := h.elim (fun o => .inl (o.same s)) .inr
def sp_is_whole : Sp := fun vs H Q _ => ∃ x, vs = [x] ∧ ((∃ i : Int, x = .int i ∧ Q (.bl true) H) ∨ (Odd H x ∧ Q (.bl false) H))
theorem ok_is_whole (B : Bl mg) (F : Fun K "is_whole" "is_whole" s_is_whole f fd) : FnOk P w K mg base CX0 1 f fd ["thing"] sp_is_whole := by
  refine F.okq sc_is_whole (fun vs H Q E h => ?_) (fun cdv A outer s H vs Q E hr h => ?_)
  · obtain ⟨i, rfl, _⟩ := h; rfl
  obtain ⟨x, rfl, h⟩ := h
  refine ⟨t_is_whole B  hr, ?_⟩
  rcases h with ⟨i, rfl, q⟩ | ⟨o, q⟩
  · refine i_isiG (i_isi (.int i) (by simp) (by simp) (bIs (by decide +kernel) ?_))
    refine i_isiG (i_isi (.int i) (by simp) (by simp) ?_)
    have e : isTy "int" "bool" = false := by decide +kernel
    rw [e]; exact q
  · refine o.isi (bF q) (fun b hb => bT ?_)
    subst hb
    refine i_isiG (i_isi (.bl b) (by simp) (by simp) ?_)
    have e : isTy "bool" "bool" = true := by decide +kernel
    rw [e]; exact q
def sp_is_within : Sp := fun vs H Q _ => ∃ (x : V) (l u : Int), vs = [x, .int l, .int u] ∧ ((∃ i : Int, x = .int i ∧ Q (.bl (decide (l ≤ i ∧ i ≤ u))) H) ∨ (Odd H x ∧ Q (.bl false) H))
theorem ok_is_within (B : Bl mg) (D_is_whole : Def P w K mg base 1 "is_whole" ["thing"] sp_is_whole) (F : Fun K "is_within" "is_within" s_is_within f fd) : FnOk P w K mg base CX0 2 f fd ["thing", "low", "high"] sp_is_within := by
  refine F.okq sc_is_within (fun vs H Q E h => ?_) (fun cdv A outer s H vs Q E hr h => ?_)
  · obtain ⟨x, l, u, rfl, _⟩ := h; rfl
  obtain ⟨x, l, u, rfl, h⟩ := h
  refine ⟨t_is_within B D_is_whole hr, ?_⟩
  rcases h with ⟨i, rfl, q⟩ | ⟨o, q⟩
  · refine ⟨_, rfl, .inl ⟨i, rfl, bT (dec2 (fun c => ?_) (fun c => ?_))⟩⟩
    · have e : decide (l ≤ i ∧ i ≤ u) = decide (i ≤ u) := by simp [c]
      rw [e] at q; exact q
    · have e : decide (l ≤ i ∧ i ≤ u) = false := by simp [c]
      rw [e] at q; exact q
  · exact ⟨_, rfl, .inr ⟨o, bF q⟩⟩
def sp_check_many (Z : Ecl) : Sp := fun vs H Q E => ∃ (r : Addr) (x : V) (xs : List V), vs = [.ref r, x] ∧ H r = some (.lst xs) ∧ ((∃ m : Int, x = .int m ∧ 1 ≤ m ∧ m ≤ xs.length ∧ Q .non H) ∨ (NoM H xs.length x ∧ E (.ref Z.NoMany) none H))
theorem ok_check_many (B : Bl mg) (Y : ErrT K mg Z) (D_is_within : Def P w K mg base 2 "is_within" ["thing", "low", "high"] sp_is_within) (F : Fun K "check_many" "check_many" s_check_many f fd) : FnOk P w K mg base (CXe P w) 3 f fd ["row", "many"] (sp_check_many Z) := by
  refine F.okx sc_check_many (fun vs H Q E h => ?_) (fun cdv A outer s H vs Q E hr h => ?_)
  · obtain ⟨r, x, xs, rfl, _⟩ := h; rfl
  obtain ⟨r, x, xs, rfl, hr0, h⟩ := h
  refine ⟨t_check_many B Y D_is_within hr, ?_⟩
  refine i_lenL hr0 ⟨x, 1, _, rfl, ?_⟩
  rcases h with ⟨m, rfl, h1, h2, q⟩ | ⟨o | ⟨m, rfl, hm⟩, q⟩
  · refine .inl ⟨m, rfl, ?_⟩
    have e : decide ((1 : Int) ≤ m ∧ m ≤ (xs.length : Int)) = true := decide_eq_true ⟨h1, h2⟩
    rw [e]
    exact bF q
  · exact .inr ⟨o, bT ⟨by decide, q⟩⟩
  · refine .inl ⟨m, rfl, ?_⟩
    have e : decide ((1 : Int) ≤ m ∧ m ≤ (xs.length : Int)) = false := decide_eq_false hm
    rw [e]
    exact bT ⟨by decide, q⟩

end
end K

set_option linter.all false
set_option Elab.async false
set_option maxRecDepth 100000
set_option maxHeartbeats 4000000
namespace K
open PySem L2
section
variable {C : Addr} {Z : Ecl} {P : Program} {w : World} {K : PySem.W.Frag} {mg : Str → Option Value} {base : Heap} {f : Addr} {fd : FuncData}

/-- a list of lists of ints, each one of its own -/
structure LL (H : Hp) (p : Addr) (ps : List Addr) (pss : List (List Int)) : Prop where
  at_ : H p = some (.lst (ps.map V.ref))
  nd : ps.Nodup
  np : p ∉ ps
  it : Paired (fun a ns => H a = some (.lst (List.map V.int ns))) ps pss
theorem pair_imp {α β : Type} {F G : α → β → Prop} : ∀ {l : List α} {m : List β}, Paired F l m → (∀ a ∈ l, ∀ b, F a b → G a b) → Paired G l m
  | _, _, .nil, _ => .nil
  | _, _, .cons r t, f => .cons (f _ List.mem_cons_self _ r) (pair_imp t fun a ha => f a (List.mem_cons_of_mem _ ha))
theorem pair_snoc {α β : Type} {F : α → β → Prop} {a : α} {b : β} (h : F a b) : ∀ {l : List α} {m : List β}, Paired F l m → Paired F (l ++ [a]) (m ++ [b])
  | _, _, .nil => .cons h .nil
  | _, _, .cons r t => .cons r (pair_snoc h t)
theorem pair_some {α β : Type} {F : α → β → Prop} : ∀ {l : List α} {m : List β}, Paired F l m → ∀ {a : α}, a ∈ l → ∃ b, F a b
  | _, _, .cons r t, a, h => by
    rcases List.mem_cons.mp h with rfl | h
    · exact ⟨_, r⟩
    · exact pair_some t h
section
variable {H H' : Hp} {p : Addr} {ps S : List Addr} {pss : List (List Int)}
theorem LL.len (h : LL H p ps pss) : ps.length = pss.length := Paired.length h.it
end
abbrev zs (cs : List Nat) : List Int := cs.map fun (n : Nat) => (n : Int)
theorem ref_at {as : List Addr} {i : Nat} {x : V} (h : (as.map V.ref)[i]? = some x) : ∃ b, as[i]? = some b ∧ x = .ref b := by
  rw [List.getElem?_map] at h
  cases e : as[i]? with
  | none => rw [e] at h; cases h
  | some b => rw [e] at h; cases h; exact ⟨b, rfl, rfl⟩
theorem pair_get {α β : Type} {F : α → β → Prop} {l : List α} {m : List β} (h : Paired F l m) {i : Nat} {a : α} (ha : l[i]? = some a) : ∃ b, m[i]? = some b ∧ F a b := by
  have hl := Paired.length h
  have hi := (List.getElem?_eq_some_iff.mp ha).1
  have hi2 : i < m.length := by omega
  exact ⟨m[i], List.getElem?_eq_getElem hi2, paired_at h i ha (List.getElem?_eq_getElem hi2)⟩

theorem map_ref_at {ps : List Addr} {i : Nat} {a : Addr} (h : ps[i]? = some a) : (ps.map V.ref)[i]? = some (.ref a) := by rw [List.getElem?_map, h]; rfl

abbrev s_sums_ahead : Stmt := top 15
theorem sc_sums_ahead : FnScope ["row", "sums", "number"] ["row"] (defScope s_sums_ahead) := ⟨rfl, rfl, rfl, by decide +kernel, rfl, by decide +kernel, by decide +kernel⟩
theorem l_sums_ahead_number : Loc (defScope s_sums_ahead) "number" := Or.inl (by kernel_rfl)
theorem l_sums_ahead_sums : Loc (defScope s_sums_ahead) "sums" := Or.inl (by kernel_rfl)
theorem v_sums_ahead_number : Vis (defScope s_sums_ahead) "number" := Or.inl (by kernel_rfl)
theorem v_sums_ahead_row : Vis (defScope s_sums_ahead) "row" := Or.inl (by kernel_rfl)
theorem v_sums_ahead_sums : Vis (defScope s_sums_ahead) "sums" := Or.inl (by kernel_rfl)
def t_sums_ahead {cdv : Value} {A : Around} {outer : List Env} {s : Shared} {H : Hp} {E : XK} (B : Bl mg) (hr : Room 0 (A.deeper (PyProof.Rows.envOfC "sums_ahead" (defScope s_sums_ahead) s.heap.objs.size f cdv))) :
    { t : TS // QB (cxOf CX0 P w K mg base ["row", "sums", "number"] "sums_ahead" (defScope s_sums_ahead) f cdv A outer s H E).nox (defBody s_sums_ahead) t } :=
  ⟨_, (qb_cons (qs_set (i := 1) sc_sums_ahead.nd rfl l_sums_ahead_sums (.inl rfl) (qe_lst (qa_cons qe_int qa_nil)))
    (qb_mid (qs_for PassesOwn.never rfl (ki_list (K := K) rfl (qv 0 rfl v_sums_ahead_row)) (qg_name (i := 2) sc_sums_ahead.nd rfl l_sums_ahead_number (.inl rfl)) (qb_one (qs_ex (ke_m1 (K := K) rfl PySem.F.plainAttrs_list PySem.F.slot_list_append PySem.F.type_list_append mtApp (qv 1 rfl v_sums_ahead_sums) (qe_op opAdd (ke_ix (K := K) rfl (qv 1 rfl v_sums_ahead_sums) (qe_un unNeg qe_int) (fun _ _ => rfl)) (qv 2 rfl v_sums_ahead_number))))))
    (qb_one (qs_ret (qv 1 rfl v_sums_ahead_sums)))))⟩
open M25 in
def sp_sums_ahead : Sp := fun vs H Q _ => ∃ (r : Addr) (ns : List Int), vs = [.ref r] ∧ H r = some (.lst (ns.map V.int)) ∧ ns.length ≤ 1000 ∧ ∀ (p : Addr) (H' : Hp), H p = none → Same H H' → H' p = some (.lst ((pre ns (ns.length + 1)).map V.int)) → Q (.ref p) H'
open M25 in
theorem pre_map (ns : List Int) (k : Nat) : (pre ns (k + 1)).map V.int = (pre ns k).map V.int ++ [V.int (S ns k)] := by rw [pre_succ, List.map_append]; rfl
open M25 in
theorem i_pre {K : PySem.W.Frag} {H : Hp} {a : Addr} {ns : List Int} {N : Nat} {i : Int} {Q : VK} (k : Nat) (h : H a = some (.lst ((pre ns N).map V.int))) (hi : i = k) (hk : k < N) (q : Q (.int (S ns k)) H) : hIx K a i H Q :=
  i_ixN k h hi (by rw [List.getElem?_map, pre_at hk]; rfl) q
open M25 in
theorem ok_sums_ahead (B : Bl mg) (F : Fun K "sums_ahead" "sums_ahead" s_sums_ahead f fd) : FnOk P w K mg base CX0 1 f fd ["row"] sp_sums_ahead := by
  refine F.okq sc_sums_ahead (fun vs H Q E h => ?_) (fun cdv A outer s H vs Q E hr h => ?_)
  · obtain ⟨r, ns, rfl, _⟩ := h; rfl
  obtain ⟨r, ns, rfl, hr0, hle, q⟩ := h
  refine ⟨t_sums_ahead B  hr, ?_⟩
  refine i_newL (by show 1 ≤ sizeLine; decide) fun p H1 hp s1 e1 => ?_
  refine ⟨fun σ H' => Same H H' ∧ H' p = some (.lst ((pre ns (ns.length + 1)).map V.int)) ∧ ∃ o, σ = [some (.ref r), some (.ref p), o], ?_, ?_⟩
  · refine ⟨⟨_, SqL.of (s1 _ _ hr0)⟩, for_list (xs := ns.map V.int) (fun i σ H' => Same H H' ∧ H' p = some (.lst ((pre ns (i + 1)).map V.int)) ∧ ∃ o, σ = [some (.ref r), some (.ref p), o]) ?_ ?_ ?_ ?_⟩
    · refine ⟨s1, ?_, _, rfl⟩
      rw [e1, pre_map, S_zero]; rfl
    · rintro i σ H' _ ⟨s', _⟩
      exact SqL.of (s' _ _ hr0)
    · rintro i x σ H2 hx ⟨s2, e2, o, rfl⟩
      obtain ⟨z, rfl, hz, _⟩ := vints_at hx
      have hi : i < ns.length := (List.getElem?_eq_some_iff.mp hz).1
      have e2' := e2
      rw [pre_map] at e2'
      refine ⟨i_tyL e2, i_ix (.inl (SqL.of e2')) (atI_last _ _) ?_⟩
      refine i_appI e2 (by rw [pre_len]; omega) fun H3 k3 e3 => ?_
      refine ⟨s2.new k3 hp, ?_, _, rfl⟩
      rw [e3, pre_succ ns (i + 1), S_succ hz]
    · rintro σ H' ⟨s', e', o⟩
      rw [List.length_map] at e'
      exact ⟨s', e', o⟩
  · rintro σ H' ⟨s', e', o, rfl⟩
    exact q p H' hp s' e'

abbrev s_end_ranges : Stmt := top 14
theorem sc_end_ranges : FnScope ["row", "low", "high", "ahead", "ranges", "first", "behind", "begin"] ["row", "low", "high"] (defScope s_end_ranges) := ⟨rfl, rfl, rfl, by decide +kernel, rfl, by decide +kernel, by decide +kernel⟩
theorem l_end_ranges_ahead : Loc (defScope s_end_ranges) "ahead" := Or.inl (by kernel_rfl)
theorem l_end_ranges_begin : Loc (defScope s_end_ranges) "begin" := Or.inl (by kernel_rfl)
theorem l_end_ranges_behind : Loc (defScope s_end_ranges) "behind" := Or.inl (by kernel_rfl)
theorem l_end_ranges_first : Loc (defScope s_end_ranges) "first" := Or.inl (by kernel_rfl)
theorem l_end_ranges_ranges : Loc (defScope s_end_ranges) "ranges" := Or.inl (by kernel_rfl)
theorem v_end_ranges_ahead : Vis (defScope s_end_ranges) "ahead" := Or.inl (by kernel_rfl)
theorem v_end_ranges_begin : Vis (defScope s_end_ranges) "begin" := Or.inl (by kernel_rfl)
theorem v_end_ranges_behind : Vis (defScope s_end_ranges) "behind" := Or.inl (by kernel_rfl)
theorem v_end_ranges_first : Vis (defScope s_end_ranges) "first" := Or.inl (by kernel_rfl)
theorem v_end_ranges_high : Vis (defScope s_end_ranges) "high" := Or.inl (by kernel_rfl)
theorem v_end_ranges_low : Vis (defScope s_end_ranges) "low" := Or.inl (by kernel_rfl)
theorem v_end_ranges_ranges : Vis (defScope s_end_ranges) "ranges" := Or.inl (by kernel_rfl)
theorem v_end_ranges_row : Vis (defScope s_end_ranges) "row" := Or.inl (by kernel_rfl)
theorem g_end_ranges_len : (defScope s_end_ranges).names.lookup ("len" : Str) = some NameKind.globalImplicit := by kernel_rfl
theorem g_end_ranges_max : (defScope s_end_ranges).names.lookup ("max" : Str) = some NameKind.globalImplicit := by kernel_rfl
theorem g_end_ranges_range : (defScope s_end_ranges).names.lookup ("range" : Str) = some NameKind.globalImplicit := by kernel_rfl
theorem g_end_ranges_sums_ahead : (defScope s_end_ranges).names.lookup ("sums_ahead" : Str) = some NameKind.globalImplicit := by kernel_rfl
def t_end_ranges {cdv : Value} {A : Around} {outer : List Env} {s : Shared} {H : Hp} {E : XK} (B : Bl mg) (D_sums_ahead : Def P w K mg base 1 "sums_ahead" ["row"] sp_sums_ahead) (hr : Room 1 (A.deeper (PyProof.Rows.envOfC "end_ranges" (defScope s_end_ranges) s.heap.objs.size f cdv))) :
    { t : TS // QB (cxOf CX0 P w K mg base ["row", "low", "high", "ahead", "ranges", "first", "behind", "begin"] "end_ranges" (defScope s_end_ranges) f cdv A outer s H E).nox (defBody s_end_ranges) t } :=
  ⟨_, (qb_cons (qs_set (i := 3) sc_end_ranges.nd rfl l_end_ranges_ahead (.inl rfl) (qe_def D_sums_ahead hr (by decide) g_end_ranges_sums_ahead (qa_cons (qv 0 rfl v_end_ranges_row) qa_nil)))
    (qb_cons (qs_set (i := 4) sc_end_ranges.nd rfl l_end_ranges_ranges (.inl rfl) (qe_lst qa_nil))
    (qb_cons (qs_two qe_int (qg_name (i := 5) sc_end_ranges.nd rfl l_end_ranges_first (.inl rfl)) (qg_name (i := 6) sc_end_ranges.nd rfl l_end_ranges_behind (.inl rfl)))
    (qb_mid (qs_for PassesOwn.never rfl (qi_r1 g_end_ranges_range B.range (qa_cons (qe_cB (kLen (K := K) rfl) g_end_ranges_len B.len boot_len' (qa_cons (qv 0 rfl v_end_ranges_row) qa_nil)) qa_nil)) (qg_name (i := 7) sc_end_ranges.nd rfl l_end_ranges_begin (.inl rfl)) (qb_cons (qs_set (i := 5) sc_end_ranges.nd rfl l_end_ranges_first (.inl rfl) (qe_cB (kMax (K := K) rfl rfl) g_end_ranges_max B.max boot_max' (qa_cons (qv 5 rfl v_end_ranges_first) (qa_cons (qe_op opAdd (qv 7 rfl v_end_ranges_begin) qe_int) qa_nil))))
    (qb_mid (qs_while PassesOwn.never (QW.pt (qw_and (qt_cmp opLe (qv 5 rfl v_end_ranges_first) (qe_cB (kLen (K := K) rfl) g_end_ranges_len B.len boot_len' (qa_cons (qv 0 rfl v_end_ranges_row) qa_nil))) (qw_and1 (qt_cmp opLt (qe_op opSub (ke_ix (K := K) rfl (qv 3 rfl v_end_ranges_ahead) (qv 5 rfl v_end_ranges_first) (fun _ _ => rfl)) (ke_ix (K := K) rfl (qv 3 rfl v_end_ranges_ahead) (qv 7 rfl v_end_ranges_begin) (fun _ _ => rfl))) (qv 1 rfl v_end_ranges_low))))) (qb_one (qs_aug (i := 5) sc_end_ranges.nd rfl l_end_ranges_first (.inl rfl) qe_int ipAdd)))
    (qb_cons (qs_set (i := 6) sc_end_ranges.nd rfl l_end_ranges_behind (.inl rfl) (qe_cB (kMax (K := K) rfl rfl) g_end_ranges_max B.max boot_max' (qa_cons (qv 6 rfl v_end_ranges_behind) (qa_cons (qv 5 rfl v_end_ranges_first) qa_nil))))
    (qb_mid (qs_while PassesOwn.never (QW.pt (qw_and (qt_cmp opLe (qv 6 rfl v_end_ranges_behind) (qe_cB (kLen (K := K) rfl) g_end_ranges_len B.len boot_len' (qa_cons (qv 0 rfl v_end_ranges_row) qa_nil))) (qw_and1 (qt_cmp opLe (qe_op opSub (ke_ix (K := K) rfl (qv 3 rfl v_end_ranges_ahead) (qv 6 rfl v_end_ranges_behind) (fun _ _ => rfl)) (ke_ix (K := K) rfl (qv 3 rfl v_end_ranges_ahead) (qv 7 rfl v_end_ranges_begin) (fun _ _ => rfl))) (qv 2 rfl v_end_ranges_high))))) (qb_one (qs_aug (i := 6) sc_end_ranges.nd rfl l_end_ranges_behind (.inl rfl) qe_int ipAdd)))
    (qb_one (qs_ex (ke_m1 (K := K) rfl PySem.F.plainAttrs_list PySem.F.slot_list_append PySem.F.type_list_append mtApp (qv 4 rfl v_end_ranges_ranges) (qe_tup (qa_cons (qv 5 rfl v_end_ranges_first) (qa_cons (qv 6 rfl v_end_ranges_behind) qa_nil)))))))))))
    (qb_one (qs_ret (qv 4 rfl v_end_ranges_ranges)))))))⟩
/-- a list of pairs of numbers -/
structure PL (H : Hp) (p : Addr) (ps : List Addr) (rs : List (Nat × Nat)) : Prop where
  at_ : H p = some (.lst (ps.map V.ref))
  it : Paired (fun a (r : Nat × Nat) => H a = some (.tup [.int r.1, .int r.2])) ps rs
theorem PL.same {H H' : Hp} {p : Addr} {ps : List Addr} {rs : List (Nat × Nat)} (h : PL H p ps rs) (s : Same H H') : PL H' p ps rs := ⟨s _ _ h.at_, pair_imp h.it fun a ha b e => s _ _ e⟩
theorem PL.add {H H3 H4 : Hp} {p q : Addr} {ps : List Addr} {rs : List (Nat × Nat)} {f g : Nat} (h : PL H p ps rs) (s : Same H H3) (e3 : H3 q = some (.tup [.int f, .int g])) (k : Kp [p] H3 H4) (e4 : H4 p = some (.lst (ps.map V.ref ++ [.ref q]))) : PL H4 p (ps ++ [q]) (rs ++ [(f, g)]) := by
  have hp3 := s _ _ h.at_
  have ne : ∀ a xs, H3 a = some (.tup xs) → a ≠ p := fun a xs e z => by rw [z, hp3] at e; cases e
  refine ⟨by rw [e4, List.map_append]; rfl, ?_⟩
  exact pair_snoc (F := fun a (r : Nat × Nat) => H4 a = some (.tup [.int r.1, .int r.2])) (b := (f, g)) (k.one (ne _ _ e3) e3) (pair_imp h.it fun a ha b e => k.one (ne _ _ (s _ _ e)) (s _ _ e))
open M25 M14 in
def sp_end_ranges : Sp := fun vs H Q _ => ∃ (r : Addr) (ns : List Int) (lo hi : Int), vs = [.ref r, .int lo, .int hi] ∧ H r = some (.lst (ns.map V.int)) ∧ ns.length ≤ 1000 ∧ (∀ n ∈ ns, 0 ≤ n) ∧
  ∀ (p : Addr) (ps : List Addr) (rs : List (Nat × Nat)) (H' : Hp), H p = none → Same H H' → PL H' p ps rs → rs.length = ns.length → (∀ j f h, rs[j]? = some (f, h) → Rng ns lo hi j f h) → Q (.ref p) H'
open M25 M14 in
theorem ok_end_ranges (B : Bl mg) (D_sums_ahead : Def P w K mg base 1 "sums_ahead" ["row"] sp_sums_ahead) (F : Fun K "end_ranges" "end_ranges" s_end_ranges f fd) : FnOk P w K mg base CX0 2 f fd ["row", "low", "high"] sp_end_ranges := by
  refine F.okq sc_end_ranges (fun vs H Q E h => ?_) (fun cdv A outer s H vs Q E hr h => ?_)
  · obtain ⟨r, ns, lo, hi, rfl, _⟩ := h; rfl
  obtain ⟨r, ns, lo, hi, rfl, hr0, hle, hnn, q⟩ := h
  refine ⟨t_end_ranges B D_sums_ahead hr, ?_⟩
  refine ⟨r, ns, rfl, hr0, hle, fun ah H1 hah s1 e1 => ?_⟩
  refine i_newL (by show 0 ≤ sizeLine; decide) fun p H2 hp s2 e2 => ?_
  have s02 := s1.trans s2
  have hp0 : H p = none := s1.free hp
  have nap : ah ≠ p := ne_of_none e1 hp
  have mono : ∀ {i j : Nat}, i ≤ j → S ns i ≤ S ns j := fun h => S_mono hnn h
  refine ⟨fun σ H' => Same H H' ∧ (∃ ps rs, PL H' p ps rs ∧ rs.length = ns.length ∧ ∀ j f h, rs[j]? = some (f, h) → Rng ns lo hi j f h) ∧ ∃ o5 o6 o7, σ = [some (.ref r), some (.int lo), some (.int hi), some (.ref ah), some (.ref p), o5, o6, o7], ?_, ?_⟩
  · refine i_lenI (s02 _ _ hr0) ⟨⟨by omega, by omega⟩, for_range (fun i σ H' => Same H H' ∧ H' ah = some (.lst ((pre ns (ns.length + 1)).map V.int)) ∧ (∃ ps rs, PL H' p ps rs ∧ rs.length = i ∧ ∀ j f h, rs[j]? = some (f, h) → Rng ns lo hi j f h) ∧ ∃ (fi be : Nat) (o7 : Option V), fi ≤ ns.length + 1 ∧ be ≤ ns.length + 1 ∧ (∀ e, i < e → e < fi → S ns e - S ns i < lo) ∧ (∀ e, i < e → fi ≤ e → e < be → S ns e - S ns i ≤ hi) ∧ σ = [some (.ref r), some (.int lo), some (.int hi), some (.ref ah), some (.ref p), some (.int fi), some (.int be), o7]) ?_ ?_ ?_⟩
    · exact ⟨s02, s2 _ _ e1, ⟨[], [], ⟨e2, .nil⟩, rfl, by simp⟩, 1, 1, _, by omega, by omega, fun e h1 h2 => by omega, fun e h1 h2 h3 => by omega, rfl⟩
    · rintro i σ H3 hi' ⟨s3, eah, ⟨ps, rs, pl, hrl, hrs⟩, fi, be, o7, fi1, be1, cf, cb, rfl⟩
      have hi'' : i < ns.length := by omega
      have er3 := s3 _ _ hr0
      refine ⟨fun σ H' => H' = H3 ∧ ∃ f : Nat, fi ≤ f ∧ i + 1 ≤ f ∧ f ≤ ns.length + 1 ∧ (∀ e, i < e → e < f → S ns e - S ns i < lo) ∧ (f ≤ ns.length → lo ≤ S ns f - S ns i) ∧ σ = [some (.ref r), some (.int lo), some (.int hi), some (.ref ah), some (.ref p), some (.int f), some (.int be), some (.int (0 + (i : Int)))], ?_, ?_⟩
      · have e0 : max (fi : Int) (0 + (i : Int) + 1) = ((max fi (i + 1) : Nat) : Int) := by omega
        refine while_m (fun mm σ H' => H' = H3 ∧ ∃ f : Nat, mm = ns.length + 1 - f ∧ fi ≤ f ∧ i + 1 ≤ f ∧ f ≤ ns.length + 1 ∧ (∀ e, i < e → e < f → S ns e - S ns i < lo) ∧ σ = [some (.ref r), some (.int lo), some (.int hi), some (.ref ah), some (.ref p), some (.int f), some (.int be), some (.int (0 + (i : Int)))]) (ns.length + 1 - max fi (i + 1)) ⟨rfl, max fi (i + 1), rfl, by omega, by omega, by omega, fun e h1 h2 => cf e h1 (by omega), by rw [e0]; rfl⟩ ?_
        rintro mm σ H' ⟨rfl, f, hmm, h1, h2, h3, h4, rfl⟩
        refine i_lenI er3 (dec2 (fun c => ?_) (fun c => bF ?_))
        · refine i_pre f eah rfl (by omega) (i_pre i eah (by omega) (by omega) (dec2 (fun c2 => ?_) (fun c2 => ?_)))
          · refine ⟨ns.length + 1 - (f + 1), by omega, rfl, f + 1, rfl, by omega, by omega, by omega, fun e g1 g2 => ?_, rfl⟩
            by_cases z : e = f
            · subst z; exact c2
            · exact h4 e g1 (by omega)
          · exact ⟨rfl, f, h1, h2, h3, h4, fun _ => by omega, rfl⟩
        · exact ⟨rfl, f, h1, h2, h3, h4, fun z => by omega, rfl⟩
      rintro σ H' ⟨rfl, f, f0, f1, f2, cf', fge, rfl⟩
      have e1' : max (be : Int) (f : Int) = ((max be f : Nat) : Int) := by omega
      refine ⟨fun σ H4 => H4 = H' ∧ ∃ g : Nat, f ≤ g ∧ g ≤ ns.length + 1 ∧ (∀ e, i < e → f ≤ e → e < g → S ns e - S ns i ≤ hi) ∧ (g ≤ ns.length → hi < S ns g - S ns i) ∧ σ = [some (.ref r), some (.int lo), some (.int hi), some (.ref ah), some (.ref p), some (.int f), some (.int g), some (.int (0 + (i : Int)))], ?_, ?_⟩
      · refine while_m (fun mm σ H4 => H4 = H' ∧ ∃ g : Nat, mm = ns.length + 1 - g ∧ f ≤ g ∧ g ≤ ns.length + 1 ∧ (∀ e, i < e → f ≤ e → e < g → S ns e - S ns i ≤ hi) ∧ σ = [some (.ref r), some (.int lo), some (.int hi), some (.ref ah), some (.ref p), some (.int f), some (.int g), some (.int (0 + (i : Int)))]) (ns.length + 1 - max be f) ⟨rfl, max be f, rfl, by omega, by omega, fun e h1 h2 h3 => cb e h1 (by omega) (by omega), by rw [e1']; rfl⟩ ?_
        rintro mm σ H4 ⟨rfl, g, hmm, h1, h2, h3, rfl⟩
        refine i_lenI er3 (dec2 (fun c => ?_) (fun c => bF ?_))
        · refine i_pre g eah rfl (by omega) (i_pre i eah (by omega) (by omega) (dec2 (fun c2 => ?_) (fun c2 => ?_)))
          · refine ⟨ns.length + 1 - (g + 1), by omega, rfl, g + 1, rfl, by omega, by omega, fun e g1 g2 g3 => ?_, rfl⟩
            by_cases z : e = g
            · subst z; exact c2
            · exact h3 e g1 g2 (by omega)
          · exact ⟨rfl, g, h1, h2, h3, fun _ => by omega, rfl⟩
        · exact ⟨rfl, g, h1, h2, h3, fun z => by omega, rfl⟩
      rintro σ H4 ⟨rfl, g, g0, g1, cb', ggt, rfl⟩
      have hpl := Paired.length pl.it
      refine ⟨i_tyL pl.at_, i_newT (by show 2 ≤ sizeLine; decide) fun tu H5 htu s5 e5 => i_app (s5 _ _ pl.at_) (sz_lt (by rw [List.length_map]; omega)) fun H6 k6 e6 => ?_⟩
      refine ⟨(s3.trans s5).new k6 hp0, k6.one nap (s5 _ _ eah), ⟨_, _, pl.add s5 e5 k6 e6, by simp [hrl], fun j f' h' hj => ?_⟩, f, g, _, f2, g1, fun e h1 h2 => ?_, fun e h1 h2 h3 => ?_, rfl⟩
      · by_cases hjr : j < rs.length
        · rw [List.getElem?_append_left hjr] at hj; exact hrs j f' h' hj
        · rw [List.getElem?_append_right (by omega)] at hj
          have hj0 : j - rs.length = 0 := by
            by_cases h0 : j - rs.length = 0
            · exact h0
            · rw [List.getElem?_eq_none (by simp; omega)] at hj; cases hj
          rw [hj0] at hj
          simp only [List.getElem?_cons_zero, Option.some.injEq, Prod.mk.injEq] at hj
          obtain ⟨rfl, rfl⟩ := hj
          have ej : j = i := by omega
          subst ej
          refine ⟨f1, g0, g1, fun e h1 h2 => ⟨fun ⟨a1, a2⟩ => ⟨?_, cb' e h1 a1 a2⟩, fun ⟨a1, a2⟩ => ⟨?_, ?_⟩⟩⟩
          · have := fge (by omega); have := mono a1; omega
          · rcases Nat.lt_or_ge e f with z | z
            · have := cf' e h1 z; omega
            · exact z
          · rcases Nat.lt_or_ge e g with z | z
            · exact z
            · have := ggt (by omega); have := mono z; omega
      · have := cf' e (by omega) h2; have := mono (show i ≤ i + 1 by omega); omega
      · have := cb' e (by omega) h2 h3; have := mono (show i ≤ i + 1 by omega); omega
    · rintro σ H' ⟨h1, _, ⟨ps, rs, h2, h3, h4⟩, fi, be, o7, _, _, _, _, rfl⟩
      exact ⟨h1, ⟨ps, rs, h2, by omega, h4⟩, _, _, _, rfl⟩
  · rintro σ H' ⟨h1, ⟨ps, rs, h2, h3, h4⟩, o5, o6, o7, rfl⟩
    exact q p ps rs H' hp0 h1 h2 h3 h4

end
end K

set_option linter.all false
set_option Elab.async false
set_option maxRecDepth 100000
set_option maxHeartbeats 4000000
namespace K
open PySem L2
section
variable {C : Addr} {Z : Ecl} {P : Program} {w : World} {K : PySem.W.Frag} {mg : Str → Option Value} {base : Heap} {f : Addr} {fd : FuncData}

theorem LL.add {H H3 H4 : Hp} {p q : Addr} {ps : List Addr} {pss : List (List Int)} {l : List Int} (h : LL H p ps pss) (hq : H q = none) (s : Same H H3) (e3 : H3 q = some (.lst (l.map V.int))) (k : Kp [p] H3 H4) (e4 : H4 p = some (.lst (ps.map V.ref ++ [.ref q]))) : LL H4 p (ps ++ [q]) (pss ++ [l]) := by
  have hqp : q ≠ p := (ne_of_none h.at_ hq).symm
  have hqn : q ∉ ps := fun hm => by
    obtain ⟨b, e⟩ := pair_some h.it hm
    rw [hq] at e; cases e
  refine ⟨by rw [e4, List.map_append]; rfl, ?_, ?_, ?_⟩
  · exact List.nodup_append.mpr ⟨h.nd, by simp, fun a ha b hb => by
      have : b = q := by simpa using hb
      subst this; exact fun z => hqn (z ▸ ha)⟩
  · intro hm
    rcases List.mem_append.mp hm with hm | hm
    · exact h.np hm
    · exact hqp (by simpa using hm : p = q).symm
  · exact pair_snoc (F := fun a ns => H4 a = some (.lst (List.map V.int ns))) (b := l) (k.one hqp e3) (pair_imp h.it fun a ha b e => k.one (fun z => h.np (z ▸ ha)) (s _ _ e))

abbrev s_count_ways : Stmt := top 16
theorem sc_count_ways : FnScope ["ranges", "many", "ways", "left", "fewer"] ["ranges", "many"] (defScope s_count_ways) := ⟨rfl, rfl, rfl, by decide +kernel, rfl, by decide +kernel, by decide +kernel⟩
theorem l_count_ways_fewer : Loc (defScope s_count_ways) "fewer" := Or.inr (by kernel_rfl)
theorem l_count_ways_left : Loc (defScope s_count_ways) "left" := Or.inl (by kernel_rfl)
theorem l_count_ways_ways : Loc (defScope s_count_ways) "ways" := Or.inl (by kernel_rfl)
theorem v_count_ways_left : Vis (defScope s_count_ways) "left" := Or.inl (by kernel_rfl)
theorem v_count_ways_many : Vis (defScope s_count_ways) "many" := Or.inl (by kernel_rfl)
theorem v_count_ways_ranges : Vis (defScope s_count_ways) "ranges" := Or.inl (by kernel_rfl)
theorem v_count_ways_ways : Vis (defScope s_count_ways) "ways" := Or.inl (by kernel_rfl)
theorem g_count_ways_len : (defScope s_count_ways).names.lookup ("len" : Str) = some NameKind.globalImplicit := by kernel_rfl
theorem g_count_ways_range : (defScope s_count_ways).names.lookup ("range" : Str) = some NameKind.globalImplicit := by kernel_rfl
def t_count_ways {cdv : Value} {A : Around} {outer : List Env} {s : Shared} {H : Hp} {E : XK} (B : Bl mg) (hr : Room 0 (A.deeper (PyProof.Rows.envOfC "count_ways" (defScope s_count_ways) s.heap.objs.size f cdv))) :
    { t : TS // QB (cxOf CX0 P w K mg base ["ranges", "many", "ways", "left", "fewer"] "count_ways" (defScope s_count_ways) f cdv A outer s H E).nox (defBody s_count_ways) t } :=
  ⟨_, (qb_cons (qs_set (i := 2) sc_count_ways.nd rfl l_count_ways_ways (.inl rfl) (qe_lst (qa_cons (qe_op opAdd (qe_op opMul (qe_lst (qa_cons qe_int qa_nil)) (qe_cB (kLen (K := K) rfl) g_count_ways_len B.len boot_len' (qa_cons (qv 0 rfl v_count_ways_ranges) qa_nil))) (qe_lst (qa_cons qe_int qa_nil))) qa_nil)))
    (qb_mid (qs_for PassesOwn.never rfl (qi_r1 g_count_ways_range B.range (qa_cons (qv 1 rfl v_count_ways_many) qa_nil)) (qg_name (i := 3) sc_count_ways.nd rfl l_count_ways_left (.inl rfl)) (qb_cons (qs_set (i := 4) sc_count_ways.nd rfl l_count_ways_fewer (.inl rfl) (ke_ix (K := K) rfl (qv 2 rfl v_count_ways_ways) (qv 3 rfl v_count_ways_left) (fun _ _ => rfl)))
    (qb_one (qs_ex (ke_m1 (K := K) rfl PySem.F.plainAttrs_list PySem.F.slot_list_append PySem.F.type_list_append mtApp (qv 2 rfl v_count_ways_ways) (qe_op opAdd (qe_cp ["first", "behind", "fewer"] [none, none, some 4] rfl (ki_list (K := K) rfl (qv 0 rfl v_count_ways_ranges)) (fun _ _ _ _ _ _ => (kg_tup (K := K) rfl rfl (qgs_cons (qg_name (i := 0) (show (["first", "behind", "fewer"] : List Str).Nodup by decide +kernel) rfl (by first | exact Or.inl rfl | exact Or.inr rfl) (by first | exact .inl rfl | exact .inr rfl)) (qgs_cons (qg_name (i := 1) (show (["first", "behind", "fewer"] : List Str).Nodup by decide +kernel) rfl (by first | exact Or.inl rfl | exact Or.inr rfl) (by first | exact .inl rfl | exact .inr rfl)) qgs_nil)))) (fun _ _ _ _ _ _ => qif_nil) (fun _ _ _ _ _ _ => (qe_cB (kSum (K := K) rfl rfl) rfl B.sum boot_sum' (qa_cons (ke_slice (K := K) rfl (qv 2 rfl (by first | exact Or.inl rfl | exact Or.inr (Or.inl rfl) | exact Or.inr (Or.inr rfl))) (qo_some (qv 0 rfl (by first | exact Or.inl rfl | exact Or.inr (Or.inl rfl) | exact Or.inr (Or.inr rfl)))) (qo_some (qv 1 rfl (by first | exact Or.inl rfl | exact Or.inr (Or.inl rfl) | exact Or.inr (Or.inr rfl))))) qa_nil)))) (qe_lst (qa_cons qe_int qa_nil))))))))
    (qb_one (qs_ret (qv 2 rfl v_count_ways_ways)))))⟩
open M25 M14 in
def sp_count_ways : Sp := fun vs H Q _ => ∃ (g : Addr) (ps : List Addr) (rs : List (Nat × Nat)) (ns : List Int) (lo hi : Int) (m : Nat), vs = [.ref g, .int m] ∧ PL H g ps rs ∧ rs.length = ns.length ∧ (∀ j f h, rs[j]? = some (f, h) → Rng ns lo hi j f h) ∧ ns.length ≤ 900 ∧ m ≤ 1000 ∧
  ∀ (p : Addr) (qs : List Addr) (pss : List (List Int)) (H' : Hp), H p = none → Same H H' → LL H' p qs pss → pss.length = m + 1 → (∀ k l, pss[k]? = some l → l = row (cnt ns lo hi k) (ns.length + 1)) → Q (.ref p) H'
open M25 M14 in
theorem ok_count_ways (B : Bl mg) (F : Fun K "count_ways" "count_ways" s_count_ways f fd) : FnOk P w K mg base CX0 1 f fd ["ranges", "many"] sp_count_ways := by
  refine F.okq sc_count_ways (fun vs H Q E h => ?_) (fun cdv A outer s H vs Q E hr h => ?_)
  · obtain ⟨g, ps, rs, ns, lo, hi, m, rfl, _⟩ := h; rfl
  obtain ⟨g, ps, rs, ns, lo, hi, m, rfl, pl, hrl, hrs, hle, hm, q⟩ := h
  refine ⟨t_count_ways B  hr, ?_⟩
  have hpl := Paired.length pl.it
  refine i_newL (by show 1 ≤ sizeLine; decide) fun p1 H1 hp1 s1 e1 => ?_
  refine i_lenL (s1 _ _ pl.at_) (i_rep1 (z := 0) e1 (by omega) (by rw [List.length_map]; omega) fun p2 H2 hp2 s2 e2 => ?_)
  refine i_newL (by show 1 ≤ sizeLine; decide) fun p3 H3 hp3 s3 e3 => ?_
  refine i_cat (s3 _ _ e2) e3 (sz_of (by simp; omega)) fun p4 H4 hp4 s4 e4 => ?_
  have e4' : H4 p4 = some (.lst ((row (cnt ns lo hi 0) (ns.length + 1)).map V.int)) := by
    have : row (cnt ns lo hi 0) (ns.length + 1) = List.replicate ns.length 0 ++ [1] := cnt_zero
    rw [e4, this, List.map_append, List.length_map, hpl, hrl]; rfl
  refine i_newL (by show 1 ≤ sizeLine; decide) fun wy H5 hwy s5 e5 => ?_
  have s04 := s1.trans (s2.trans (s3.trans s4))
  have s05 := s04.trans s5
  have hwy0 : H wy = none := s04.free hwy
  have ll0 : LL H5 wy [p4] [row (cnt ns lo hi 0) (ns.length + 1)] := by
    refine ⟨e5, by simp, ?_, .cons (s5 _ _ e4') .nil⟩
    have := ne_of_none e4 hwy
    simpa using this.symm
  refine ⟨fun σ H' => (∃ qs pss, Same H H' ∧ LL H' wy qs pss ∧ pss.length = m + 1 ∧ ∀ k l, pss[k]? = some l → l = row (cnt ns lo hi k) (ns.length + 1)) ∧ ∃ o3 o4, σ = [some (.ref g), some (.int m), some (.ref wy), o3, o4], ?_, ?_⟩
  · refine ⟨⟨by omega, by omega⟩, for_range (fun i σ H' => (∃ qs pss, Same H H' ∧ LL H' wy qs pss ∧ pss.length = i + 1 ∧ ∀ k l, pss[k]? = some l → l = row (cnt ns lo hi k) (ns.length + 1)) ∧ ∃ o3 o4, σ = [some (.ref g), some (.int m), some (.ref wy), o3, o4]) ?_ ?_ ?_⟩
    · refine ⟨⟨_, _, s05, ll0, rfl, fun k l e => ?_⟩, _, _, rfl⟩
      match k, e with
      | 0, e => simp at e; exact e.symm
      | k + 1, e => simp at e
    · rintro i σ H6 hi' ⟨⟨qs, pss, s6, ll, hpp, hok⟩, o3, o4, rfl⟩
      have hi'' : i < m := by omega
      have hql := ll.len
      have hx : qs[i]? = some (qs[i]'(by omega)) := List.getElem?_eq_getElem (by omega)
      obtain ⟨fw, hfw, efw⟩ := pair_get ll.it hx
      generalize qs[i]'(by omega) = fa at hx efw
      have hfe := hok i fw hfw
      subst hfe
      refine i_ixN i ll.at_ (by omega) (map_ref_at hx) ?_
      have pl6 := pl.same s6
      refine ⟨i_tyL ll.at_, ⟨_, SqL.of pl6.at_⟩, comp_lst (ps.map V.ref) (fun b D σ H' ys => ys = (row (cnt ns lo hi (i + 1)) b).map V.int ∧ Same H6 H' ∧ ∃ o1 o2, σ = [o1, o2, some (.ref fa)]) ?_ ?_ ?_ ?_⟩
      · intro D H' hD s' e'
        exact ⟨rfl, s', _, _, rfl⟩
      · rintro b D σ H' ys hD ⟨_, s', _⟩
        exact SqL.of (s' _ _ pl6.at_)
      · rintro b x D σ H' ys hx' hD ⟨rfl, s', o1, o2, rfl⟩ eD
        obtain ⟨a, ha, rfl⟩ := ref_at hx'
        obtain ⟨⟨f, h⟩, hfh, ea⟩ := pair_get pl6.it ha
        have rg := hrs b f h hfh
        have hb : b < ns.length := by have := (List.getElem?_eq_some_iff.mp hfh).1; omega
        have r1 := rg.fh
        have r2 := rg.hn
        refine i_unp (s' _ _ ea) rfl (bT (i_sl (SqL.of (s' _ _ efw)) fun sl H8 hsl s8 e8 => ?_))
        have e8' : H8 sl = some (.lst ((((row (cnt ns lo hi i) (ns.length + 1)).drop f).take (h - f)).map V.int)) := by
          rw [e8, cutV_ints, HT.sIx_nat, HT.sIx_nat, row_len, Nat.min_eq_left (by omega), Nat.min_eq_left (by omega)]
        refine i_sum (SqL.of e8') ?_
        have es : (((row (cnt ns lo hi i) (ns.length + 1)).drop f).take (h - f)).sum = cnt ns lo hi (i + 1) b := cnt_step hb rg
        rw [es]
        refine ⟨s8 _ _ eD, sz_lt (by rw [List.length_map, row_len]; omega), fun H9 k9 e9 => ⟨?_, (s'.trans s8).new k9 hD, _, _, rfl⟩⟩
        unfold row
        rw [List.range_succ, List.map_append, List.map_append]; rfl
      · rintro D σ H7 ys hD ⟨rfl, s7, _⟩ eD
        rw [List.length_map, hpl, hrl] at eD
        refine i_newL (by show 1 ≤ sizeLine; decide) fun z1 H8 hz1 s8 e8 => ?_
        refine i_cat (s8 _ _ eD) e8 (sz_of (by rw [List.length_map, row_len]; simp; omega)) fun nw H9 hnw s9 e9 => ?_
        have s69 := s7.trans (s8.trans s9)
        have e9' : H9 nw = some (.lst ((row (cnt ns lo hi (i + 1)) (ns.length + 1)).map V.int)) := by
          rw [e9]; unfold row; rw [List.range_succ, List.map_append, List.map_append, List.map_singleton, List.map_singleton, cnt_end]
        refine i_app (s69 _ _ ll.at_) (sz_lt (by rw [List.length_map]; omega)) fun H10 k10 e10 => ?_
        refine ⟨⟨_, _, (s6.trans s69).new k10 hwy0, ll.add (s7.free (s8.free hnw)) s69 e9' k10 e10, by simp [hpp], fun k l e => ?_⟩, _, _, rfl⟩
        by_cases hk : k < i + 1
        · rw [List.getElem?_append_left (by omega)] at e; exact hok k l e
        · rw [List.getElem?_append_right (by omega)] at e
          by_cases hk2 : k = i + 1
          · subst hk2
            rw [hpp, Nat.sub_self] at e; simp at e; exact e.symm
          · rw [List.getElem?_eq_none (by simp; omega)] at e; cases e
    · rintro σ H' ⟨⟨qs, pss, h1, h2, h3, h4⟩, o⟩
      exact ⟨⟨qs, pss, h1, h2, by omega, h4⟩, o⟩
  · rintro σ H' ⟨⟨qs, pss, h1, h2, h3, h4⟩, o3, o4, rfl⟩
    exact q wy qs pss H' hwy0 h1 h2 h3 h4

abbrev s_cuts_between : Stmt := top 12
theorem sc_cuts_between : FnScope ["row", "many", "low", "high"] ["row", "many", "low", "high"] (defScope s_cuts_between) := ⟨rfl, rfl, rfl, by decide +kernel, rfl, by decide +kernel, by decide +kernel⟩
theorem v_cuts_between_high : Vis (defScope s_cuts_between) "high" := Or.inl (by kernel_rfl)
theorem v_cuts_between_low : Vis (defScope s_cuts_between) "low" := Or.inl (by kernel_rfl)
theorem v_cuts_between_many : Vis (defScope s_cuts_between) "many" := Or.inl (by kernel_rfl)
theorem v_cuts_between_row : Vis (defScope s_cuts_between) "row" := Or.inl (by kernel_rfl)
theorem g_cuts_between_check_many : (defScope s_cuts_between).names.lookup ("check_many" : Str) = some NameKind.globalImplicit := by kernel_rfl
theorem g_cuts_between_count_ways : (defScope s_cuts_between).names.lookup ("count_ways" : Str) = some NameKind.globalImplicit := by kernel_rfl
theorem g_cuts_between_end_ranges : (defScope s_cuts_between).names.lookup ("end_ranges" : Str) = some NameKind.globalImplicit := by kernel_rfl
def t_cuts_between {cdv : Value} {A : Around} {outer : List Env} {s : Shared} {H : Hp} {E : XK} (B : Bl mg) (D_check_many : DefX P w K mg base 3 "check_many" ["row", "many"] (sp_check_many Z)) (D_count_ways : Def P w K mg base 1 "count_ways" ["ranges", "many"] sp_count_ways) (D_end_ranges : Def P w K mg base 2 "end_ranges" ["row", "low", "high"] sp_end_ranges) (hr : Room 3 (A.deeper (PyProof.Rows.envOfC "cuts_between" (defScope s_cuts_between) s.heap.objs.size f cdv))) :
    { t : TS // QB (cxE P w K mg base ["row", "many", "low", "high"] "cuts_between" (defScope s_cuts_between) f cdv A outer s H E) (defBody s_cuts_between) t } :=
  ⟨_, (qb_cons (qs_ex (qe_defX D_check_many passes_cxE hr (by decide) g_cuts_between_check_many (qa_cons (qv 0 rfl v_cuts_between_row) (qa_cons (qv 1 rfl v_cuts_between_many) qa_nil))))
    (qb_one (qs_nox (qs_ret (ke_ix (K := K) rfl (ke_ix (K := K) rfl (qe_def D_count_ways hr (by decide) g_cuts_between_count_ways (qa_cons (qe_def D_end_ranges hr (by decide) g_cuts_between_end_ranges (qa_cons (qv 0 rfl v_cuts_between_row) (qa_cons (qv 2 rfl v_cuts_between_low) (qa_cons (qv 3 rfl v_cuts_between_high) qa_nil)))) (qa_cons (qv 1 rfl v_cuts_between_many) qa_nil))) (qv 1 rfl v_cuts_between_many) (fun _ _ => rfl)) qe_int (fun _ _ => rfl))))))⟩
open M25 M14 in
def spG_cuts_between : Sp := fun vs H Q _ => ∃ (r : Addr) (ns : List Int) (m : Nat) (lo hi : Int), vs = [.ref r, .int m, .int lo, .int hi] ∧ H r = some (.lst (ns.map V.int)) ∧ ns.length ≤ 900 ∧ (∀ n ∈ ns, 0 ≤ n) ∧ 1 ≤ m ∧ m ≤ ns.length ∧ ∀ H', Same H H' → Q (.int (cnt ns lo hi m 0)) H'
def sp_cuts_between (Z : Ecl) : Sp := fun vs H Q E => spG_cuts_between vs H Q E ∨ ∃ (r : Addr) (x : V) (ns : List Int) (lo hi : Int), vs = [.ref r, x, .int lo, .int hi] ∧ H r = some (.lst (ns.map V.int)) ∧ NoM H ns.length x ∧ E (.ref Z.NoMany) none H
open M25 M14 in
theorem ok_cuts_between (B : Bl mg) (D_check_many : DefX P w K mg base 3 "check_many" ["row", "many"] (sp_check_many Z)) (D_count_ways : Def P w K mg base 1 "count_ways" ["ranges", "many"] sp_count_ways) (D_end_ranges : Def P w K mg base 2 "end_ranges" ["row", "low", "high"] sp_end_ranges) (F : Fun K "cuts_between" "cuts_between" s_cuts_between f fd) : FnOk P w K mg base (CXe P w) 4 f fd ["row", "many", "low", "high"] (sp_cuts_between Z) := by
  refine F.okx sc_cuts_between (fun vs H Q E h => ?_) (fun cdv A outer s H vs Q E hr h => ?_)
  · rcases h with ⟨r, ns, m, lo, hi, rfl, _⟩ | ⟨r, x, ns, lo, hi, rfl, _⟩ <;> rfl
  refine ⟨t_cuts_between B D_check_many D_count_ways D_end_ranges hr, ?_⟩
  rcases h with ⟨r, ns, m, lo, hi, rfl, hr0, hle, hnn, m1, m2, q⟩ | ⟨r, x, ns, lo, hi, rfl, hr0, hx, q⟩
  · refine ⟨r, _, _, rfl, hr0, .inl ⟨m, rfl, by omega, by rw [List.length_map]; omega, ?_⟩⟩
    refine ⟨r, ns, lo, hi, rfl, hr0, by omega, hnn, fun p ps rs H1 hp s1 pl hrl hrs => ?_⟩
    refine ⟨p, ps, rs, ns, lo, hi, m, rfl, pl, hrl, hrs, hle, by omega, fun w qs pss H2 hw s2 ll hpl hok => ?_⟩
    have hql := ll.len
    have hx : qs[m]? = some (qs[m]'(by omega)) := List.getElem?_eq_getElem (by omega)
    obtain ⟨l, hl, el⟩ := pair_get ll.it hx
    have hle' := hok m l hl
    subst hle'
    refine i_ixN m ll.at_ rfl (map_ref_at hx) (i_ixI el (by decide) (by rw [row_len]; omega) ?_)
    rw [show (0 : Int).toNat = 0 from rfl, row_getD (by omega)]
    exact q H2 (s1.trans s2)
  · exact ⟨r, _, _, rfl, hr0, .inr ⟨by rw [List.length_map]; exact hx, q⟩⟩

end
end K

set_option linter.all false
set_option Elab.async false
set_option maxRecDepth 100000
set_option maxHeartbeats 4000000
namespace K
open PySem L2
section
variable {C : Addr} {Z : Ecl} {P : Program} {w : World} {K : PySem.W.Frag} {mg : Str → Option Value} {base : Heap} {f : Addr} {fd : FuncData}

abbrev s_cut_at : Stmt := top 13
theorem sc_cut_at : FnScope ["row", "many", "low", "high", "place", "ranges", "ways", "cut", "end", "skipped", "left"] ["row", "many", "low", "high", "place"] (defScope s_cut_at) := ⟨rfl, rfl, rfl, by decide +kernel, rfl, by decide +kernel, by decide +kernel⟩
theorem l_cut_at_cut : Loc (defScope s_cut_at) "cut" := Or.inl (by kernel_rfl)
theorem l_cut_at_end : Loc (defScope s_cut_at) "end" := Or.inl (by kernel_rfl)
theorem l_cut_at_left : Loc (defScope s_cut_at) "left" := Or.inl (by kernel_rfl)
theorem l_cut_at_ranges : Loc (defScope s_cut_at) "ranges" := Or.inl (by kernel_rfl)
theorem l_cut_at_skipped : Loc (defScope s_cut_at) "skipped" := Or.inl (by kernel_rfl)
theorem l_cut_at_ways : Loc (defScope s_cut_at) "ways" := Or.inl (by kernel_rfl)
theorem v_cut_at_cut : Vis (defScope s_cut_at) "cut" := Or.inl (by kernel_rfl)
theorem v_cut_at_end : Vis (defScope s_cut_at) "end" := Or.inl (by kernel_rfl)
theorem v_cut_at_high : Vis (defScope s_cut_at) "high" := Or.inl (by kernel_rfl)
theorem v_cut_at_left : Vis (defScope s_cut_at) "left" := Or.inl (by kernel_rfl)
theorem v_cut_at_low : Vis (defScope s_cut_at) "low" := Or.inl (by kernel_rfl)
theorem v_cut_at_many : Vis (defScope s_cut_at) "many" := Or.inl (by kernel_rfl)
theorem v_cut_at_place : Vis (defScope s_cut_at) "place" := Or.inl (by kernel_rfl)
theorem v_cut_at_ranges : Vis (defScope s_cut_at) "ranges" := Or.inl (by kernel_rfl)
theorem v_cut_at_row : Vis (defScope s_cut_at) "row" := Or.inl (by kernel_rfl)
theorem v_cut_at_skipped : Vis (defScope s_cut_at) "skipped" := Or.inl (by kernel_rfl)
theorem v_cut_at_ways : Vis (defScope s_cut_at) "ways" := Or.inl (by kernel_rfl)
theorem g_cut_at_NoPlace : (defScope s_cut_at).names.lookup ("NoPlace" : Str) = some NameKind.globalImplicit := by kernel_rfl
theorem g_cut_at_check_many : (defScope s_cut_at).names.lookup ("check_many" : Str) = some NameKind.globalImplicit := by kernel_rfl
theorem g_cut_at_count_ways : (defScope s_cut_at).names.lookup ("count_ways" : Str) = some NameKind.globalImplicit := by kernel_rfl
theorem g_cut_at_end_ranges : (defScope s_cut_at).names.lookup ("end_ranges" : Str) = some NameKind.globalImplicit := by kernel_rfl
theorem g_cut_at_is_within : (defScope s_cut_at).names.lookup ("is_within" : Str) = some NameKind.globalImplicit := by kernel_rfl
theorem g_cut_at_range : (defScope s_cut_at).names.lookup ("range" : Str) = some NameKind.globalImplicit := by kernel_rfl
def t_cut_at {cdv : Value} {A : Around} {outer : List Env} {s : Shared} {H : Hp} {E : XK} (B : Bl mg) (Y : ErrT K mg Z) (D_check_many : DefX P w K mg base 3 "check_many" ["row", "many"] (sp_check_many Z)) (D_end_ranges : Def P w K mg base 2 "end_ranges" ["row", "low", "high"] sp_end_ranges) (D_count_ways : Def P w K mg base 1 "count_ways" ["ranges", "many"] sp_count_ways) (D_is_within : Def P w K mg base 2 "is_within" ["thing", "low", "high"] sp_is_within) (hr : Room 3 (A.deeper (PyProof.Rows.envOfC "cut_at" (defScope s_cut_at) s.heap.objs.size f cdv))) :
    { t : TS // QB (cxE P w K mg base ["row", "many", "low", "high", "place", "ranges", "ways", "cut", "end", "skipped", "left"] "cut_at" (defScope s_cut_at) f cdv A outer s H E) (defBody s_cut_at) t } :=
  ⟨_, (qb_cons (qs_ex (qe_defX D_check_many passes_cxE hr (by decide) g_cut_at_check_many (qa_cons (qv 0 rfl v_cut_at_row) (qa_cons (qv 1 rfl v_cut_at_many) qa_nil))))
    (qb_cons (qs_nox (qs_set (i := 5) sc_cut_at.nd rfl l_cut_at_ranges (.inl rfl) (qe_def D_end_ranges hr (by decide) g_cut_at_end_ranges (qa_cons (qv 0 rfl v_cut_at_row) (qa_cons (qv 2 rfl v_cut_at_low) (qa_cons (qv 3 rfl v_cut_at_high) qa_nil))))))
    (qb_cons (qs_nox (qs_set (i := 6) sc_cut_at.nd rfl l_cut_at_ways (.inl rfl) (qe_def D_count_ways hr (by decide) g_cut_at_count_ways (qa_cons (qv 5 rfl v_cut_at_ranges) (qa_cons (qv 1 rfl v_cut_at_many) qa_nil)))))
    (qb_cons (qs_if (qt_not (kt_val (K := K) rfl (qe_def D_is_within hr (by decide) g_cut_at_is_within (qa_cons (qv 4 rfl v_cut_at_place) (qa_cons qe_int (qa_cons (qe_op opSub (ke_ix (K := K) rfl (ke_ix (K := K) rfl (qv 6 rfl v_cut_at_ways) (qv 1 rfl v_cut_at_many) (fun _ _ => rfl)) qe_int (fun _ _ => rfl)) qe_int) qa_nil)))))) (qb_one (qs_raise raises_cxE rfl g_cut_at_NoPlace Y.x_NoPlace (qa_cons qe_str qa_nil))) qb_nil)
    (qb_cons (qs_nox (qs_set (i := 7) sc_cut_at.nd rfl l_cut_at_cut (.inl rfl) (qe_lst qa_nil)))
    (qb_cons (qs_nox (qs_set (i := 8) sc_cut_at.nd rfl l_cut_at_end (.inl rfl) qe_int))
    (qb_cons (qs_nox (qs_set (i := 9) sc_cut_at.nd rfl l_cut_at_skipped (.inl rfl) qe_int))
    (qb_mid (qs_nox (qs_for PassesOwn.never rfl (qi_r3 g_cut_at_range B.range (qa_cons (qe_op opSub (qv 1 rfl v_cut_at_many) qe_int) (qa_cons qe_int (qa_cons (qe_un unNeg qe_int) qa_nil)))) (qg_name (i := 10) sc_cut_at.nd rfl l_cut_at_left (.inl rfl)) (qb_cons (qs_set (i := 8) sc_cut_at.nd rfl l_cut_at_end (.inl rfl) (ke_ix (K := K) rfl (ke_ix (K := K) rfl (qv 5 rfl v_cut_at_ranges) (qv 8 rfl v_cut_at_end) (fun _ _ => rfl)) qe_int (fun _ _ => rfl)))
    (qb_mid (qs_while PassesOwn.never (qt_cmp opLe (qe_op opAdd (qv 9 rfl v_cut_at_skipped) (ke_ix (K := K) rfl (ke_ix (K := K) rfl (qv 6 rfl v_cut_at_ways) (qv 10 rfl v_cut_at_left) (fun _ _ => rfl)) (qv 8 rfl v_cut_at_end) (fun _ _ => rfl))) (qv 4 rfl v_cut_at_place)) (qb_cons (qs_aug (i := 9) sc_cut_at.nd rfl l_cut_at_skipped (.inl rfl) (ke_ix (K := K) rfl (ke_ix (K := K) rfl (qv 6 rfl v_cut_at_ways) (qv 10 rfl v_cut_at_left) (fun _ _ => rfl)) (qv 8 rfl v_cut_at_end) (fun _ _ => rfl)) ipAdd)
    (qb_one (qs_aug (i := 8) sc_cut_at.nd rfl l_cut_at_end (.inl rfl) qe_int ipAdd))))
    (qb_one (qs_ex (ke_m1 (K := K) rfl PySem.F.plainAttrs_list PySem.F.slot_list_append PySem.F.type_list_append mtApp (qv 7 rfl v_cut_at_cut) (qv 8 rfl v_cut_at_end))))))))
    (qb_one (qs_nox (qs_ret (qv 7 rfl v_cut_at_cut))))))))))))⟩
open M25 M14 M18 in
def spG_cut_at : Sp := fun vs H Q _ => ∃ (r : Addr) (ns : List Int) (m : Nat) (lo hi pl : Int), vs = [.ref r, .int m, .int lo, .int hi, .int pl] ∧ H r = some (.lst (ns.map V.int)) ∧ ns.length ≤ 900 ∧ (∀ n ∈ ns, 0 ≤ n) ∧ 1 ≤ m ∧ m ≤ ns.length ∧ 0 ≤ pl ∧ pl < M14.cnt ns lo hi m 0 ∧
  ∀ (p : Addr) (c : List Int) (H' : Hp), At ns lo hi (m - 1) 0 pl c → H p = none → Same H H' → H' p = some (.lst (c.map V.int)) → Q (.ref p) H'
/-- what is no number of a cut of so many -/
def NoPl (H : Hp) (n : Int) (x : V) : Prop := Odd H x ∨ ∃ m : Int, x = .int m ∧ ¬ (0 ≤ m ∧ m < n)
theorem NoPl.same {H H' : Hp} {n : Int} {x : V} (s : Same H H') (h : NoPl H n x) : NoPl H' n x := h.elim (fun o => .inl (o.same s)) .inr
def sp_cut_at (Z : Ecl) : Sp := fun vs H Q E => spG_cut_at vs H Q E ∨ (∃ (r : Addr) (x y : V) (ns : List Int) (lo hi : Int), vs = [.ref r, x, .int lo, .int hi, y] ∧ H r = some (.lst (ns.map V.int)) ∧ NoM H ns.length x ∧ E (.ref Z.NoMany) none H) ∨
  ∃ (r : Addr) (ns : List Int) (m : Nat) (lo hi : Int) (y : V), vs = [.ref r, .int m, .int lo, .int hi, y] ∧ H r = some (.lst (ns.map V.int)) ∧ ns.length ≤ 900 ∧ (∀ n ∈ ns, 0 ≤ n) ∧ 1 ≤ m ∧ m ≤ ns.length ∧ NoPl H (M14.cnt ns lo hi m 0) y ∧ ∀ H', Same H H' → E (.ref Z.NoPlace) none H'
open M25 M14 M18 in
theorem ok_cut_at (B : Bl mg) (Y : ErrT K mg Z) (D_check_many : DefX P w K mg base 3 "check_many" ["row", "many"] (sp_check_many Z)) (D_end_ranges : Def P w K mg base 2 "end_ranges" ["row", "low", "high"] sp_end_ranges) (D_count_ways : Def P w K mg base 1 "count_ways" ["ranges", "many"] sp_count_ways) (D_is_within : Def P w K mg base 2 "is_within" ["thing", "low", "high"] sp_is_within) (F : Fun K "cut_at" "cut_at" s_cut_at f fd) : FnOk P w K mg base (CXe P w) 4 f fd ["row", "many", "low", "high", "place"] (sp_cut_at Z) := by
  refine F.okx sc_cut_at (fun vs H Q E h => ?_) (fun cdv A outer s H vs Q E hr h => ?_)
  · rcases h with ⟨r, ns, m, lo, hi, pl, rfl, _⟩ | ⟨r, x, y, ns, lo, hi, rfl, _⟩ | ⟨r, ns, m, lo, hi, y, rfl, _⟩ <;> rfl
  refine ⟨t_cut_at B Y D_check_many D_end_ranges D_count_ways D_is_within hr, ?_⟩
  rcases h with ⟨r, ns, m, lo, hi, pl, rfl, hr0, hle, hnn, m1, m2, p0, p1, q⟩ | ⟨r, x, y, ns, lo, hi, rfl, hr0, hx, q⟩ | ⟨r, ns, m, lo, hi, y, rfl, hr0, hle, hnn, m1, m2, hy, q⟩
  · refine ⟨r, _, _, rfl, hr0, .inl ⟨m, rfl, by omega, by rw [List.length_map]; omega, ?_⟩⟩
    refine ⟨r, ns, lo, hi, rfl, hr0, by omega, hnn, fun rg ps rs H1 hrg s1 plr hrl hrs => ?_⟩
    refine ⟨rg, ps, rs, ns, lo, hi, m, rfl, plr, hrl, hrs, hle, by omega, fun w qs pss H2 hw s2 ll hpl hok => ?_⟩
    have hql := ll.len
    have plr2 := plr.same s2
    have hpsl := Paired.length plr.it
    have way : ∀ l, l ≤ m → ∃ a, (qs.map V.ref)[l]? = some (.ref a) ∧ H2 a = some (.lst ((row (M14.cnt ns lo hi l) (ns.length + 1)).map V.int)) := fun l hl => by
      have hx' : qs[l]? = some (qs[l]'(by omega)) := List.getElem?_eq_getElem (by omega)
      obtain ⟨lr, hlr, el⟩ := pair_get ll.it hx'
      have hle' := hok l lr hlr
      subst hle'
      exact ⟨_, map_ref_at hx', el⟩
    obtain ⟨a0, ha0, ea0⟩ := way m (Nat.le_refl _)
    refine i_ixN m (v := .ref a0) ll.at_ rfl ha0 (i_ixI ea0 (by decide) (by rw [row_len]; omega) ?_)
    rw [show (0 : Int).toNat = 0 from rfl, row_getD (by omega)]
    refine ⟨_, 0, M14.cnt ns lo hi m 0 - 1, rfl, .inl ⟨pl, rfl, bNo (by simp; omega) ?_⟩⟩
    refine i_newL (by show 0 ≤ sizeLine; decide) fun ct H3 hct s3 e3 => ?_
    have s02 := s1.trans s2
    have hct0 : H ct = none := s02.free hct
    refine ⟨fun σ H' => Same H2 H' ∧ (∃ c : List Int, At ns lo hi (m - 1) 0 pl c ∧ H' ct = some (.lst (c.map V.int))) ∧ ∃ o8 o9 o10, σ = [some (.ref r), some (.int m), some (.int lo), some (.int hi), some (.int pl), some (.ref rg), some (.ref w), some (.ref ct), o8, o9, o10], ?_, ?_⟩
    · refine ⟨rfl, ⟨by omega, by omega, by omega, by omega⟩, for_down (fun j σ H' => Same H2 H' ∧ ∃ (i : Nat) (sk p' : Int) (c1 : List Int) (o10 : Option V), i ≤ ns.length ∧ sk + p' = pl ∧ 0 ≤ p' ∧ p' < M14.cnt ns lo hi (m - j) i ∧ c1.length = j ∧ (∀ c2, At ns lo hi (m - 1 - j) i p' c2 → At ns lo hi (m - 1) 0 pl (c1 ++ c2)) ∧ H' ct = some (.lst (c1.map V.int)) ∧ σ = [some (.ref r), some (.int m), some (.int lo), some (.int hi), some (.int pl), some (.ref rg), some (.ref w), some (.ref ct), some (.int i), some (.int sk), o10]) ?_ ?_ ?_⟩
      · exact ⟨s3, 0, 0, pl, [], _, by omega, by omega, p0, p1, rfl, fun c2 h => h, e3, rfl⟩
      · rintro j σ H4 hj ⟨s4, i, sk, p', c1, o10, hi', hsk, hp0, hp1, hc1, hAt, e4, rfl⟩
        obtain ⟨k, hk⟩ : ∃ k, m - 1 - j = k + 1 := ⟨m - 2 - j, by omega⟩
        have hk2 : m - j = k + 2 := by omega
        rw [hk] at hAt
        rw [hk2] at hp1
        have hin : i < ns.length := Classical.byContradiction fun z => by
          rw [show i = ns.length by omega, cnt_end] at hp1; omega
        have hxp : ps[i]? = some (ps[i]'(by omega)) := List.getElem?_eq_getElem (by omega)
        obtain ⟨⟨f, h⟩, hfh, ea⟩ := pair_get plr2.it hxp
        have rng := hrs i f h hfh
        refine i_ixN i (s4 _ _ plr2.at_) rfl (map_ref_at hxp) (i_ixT 0 (v := .int f) (s4 _ _ ea) rfl rfl ?_)
        have f1 := rng.f1
        have f2 := rng.fh
        have f3 := rng.hn
        have eL : ((m : Int) - 1 - j) = ((k + 1 : Nat) : Int) := by omega
        rw [eL]
        obtain ⟨ak, hak, eak⟩ := way (k + 1) (by omega)
        have az := acc_zero rng (k + 1)
        refine ⟨fun σ H' => H' = H4 ∧ ∃ x : Nat, i < x ∧ x < ns.length ∧ acc ns lo hi (k + 1) i x ≤ p' ∧ p' < acc ns lo hi (k + 1) i (x + 1) ∧ ok ns lo hi i x = 1 ∧ σ = [some (.ref r), some (.int m), some (.int lo), some (.int hi), some (.int pl), some (.ref rg), some (.ref w), some (.ref ct), some (.int x), some (.int (sk + acc ns lo hi (k + 1) i x)), some (.int ((k + 1 : Nat) : Int))], ?_, ?_⟩
        · refine while_m (fun mm σ H' => H' = H4 ∧ ∃ x : Nat, mm = ns.length + 1 - x ∧ f ≤ x ∧ x ≤ ns.length + 1 ∧ acc ns lo hi (k + 1) i x ≤ p' ∧ σ = [some (.ref r), some (.int m), some (.int lo), some (.int hi), some (.int pl), some (.ref rg), some (.ref w), some (.ref ct), some (.int x), some (.int (sk + acc ns lo hi (k + 1) i x)), some (.int ((k + 1 : Nat) : Int))]) (ns.length + 1 - f) ⟨rfl, f, rfl, Nat.le_refl _, by omega, by omega, by rw [az, Int.add_zero]; rfl⟩ ?_
          rintro mm σ H' ⟨rfl, x, rfl, hx1, hx2, hx3, rfl⟩
          obtain ⟨hxn, hxo⟩ := acc_in rng hx1 hx2 hx3 hp1
          have as := acc_succ (ns := ns) (lo := lo) (hi := hi) (k + 1) i x
          rw [hxo, Int.one_mul] at as
          refine i_ixN (k + 1) (v := .ref ak) (s4 _ _ ll.at_) rfl hak (i_ixI (s4 _ _ eak) (by omega) (by rw [row_len]; omega) ?_)
          rw [Int.toNat_natCast, row_getD (by omega)]
          refine dec2 (fun c => ?_) (fun c => ?_)
          · refine i_ixN (k + 1) (v := .ref ak) (s4 _ _ ll.at_) rfl hak (i_ixI (s4 _ _ eak) (by omega) (by rw [row_len]; omega) ?_)
            rw [Int.toNat_natCast, row_getD (by omega)]
            refine ⟨ns.length + 1 - (x + 1), by omega, rfl, x + 1, rfl, by omega, by omega, by omega, ?_⟩
            rw [as, ← Int.add_assoc]; rfl
          · exact ⟨rfl, x, by omega, hxn, hx3, by omega, hxo, rfl⟩
        rintro σ H' ⟨rfl, x, x1, x2, x3, x4, xo, rfl⟩
        have as := acc_succ (ns := ns) (lo := lo) (hi := hi) (k + 1) i x
        rw [xo, Int.one_mul] at as
        refine ⟨i_tyL e4, i_appI e4 (by omega) fun H6 k6 e6 => ?_⟩
        refine ⟨s4.new k6 hct, x, sk + acc ns lo hi (k + 1) i x, p' - acc ns lo hi (k + 1) i x, c1 ++ [(x : Int)], _, by omega, by omega, by omega, ?_, by simp [hc1], fun c2 h2 => ?_, e6, rfl⟩
        · rw [show m - (j + 1) = k + 1 by omega]; omega
        · rw [show m - 1 - (j + 1) = k by omega] at h2
          rw [List.append_assoc]
          exact hAt _ (At.step x1 x2 x3 x4 h2)
      · rintro σ H4 ⟨s4, i, sk, p', c1, o10, _, _, _, _, hc1, hAt, e4, rfl⟩
        have e0 : m - 1 - ((m : Int) - 1 - 0).toNat = 0 := by omega
        rw [e0] at hAt
        have := hAt [] At.nil
        rw [List.append_nil] at this
        exact ⟨s4, ⟨c1, this, e4⟩, _, _, _, rfl⟩
    · rintro σ H4 ⟨s4, ⟨c, hc, e4⟩, o8, o9, o10, rfl⟩
      exact q ct c H4 hc hct0 (s02.trans s4) e4
  · exact ⟨r, _, _, rfl, hr0, .inr ⟨by rw [List.length_map]; exact hx, q⟩⟩
  · refine ⟨r, _, _, rfl, hr0, .inl ⟨m, rfl, by omega, by rw [List.length_map]; omega, ?_⟩⟩
    refine ⟨r, ns, lo, hi, rfl, hr0, by omega, hnn, fun rg ps rs H1 hrg s1 plr hrl hrs => ?_⟩
    refine ⟨rg, ps, rs, ns, lo, hi, m, rfl, plr, hrl, hrs, hle, by omega, fun w qs pss H2 hw s2 ll hpl hok => ?_⟩
    have hql := ll.len
    have plr2 := plr.same s2
    have hpsl := Paired.length plr.it
    have way : ∀ l, l ≤ m → ∃ a, (qs.map V.ref)[l]? = some (.ref a) ∧ H2 a = some (.lst ((row (M14.cnt ns lo hi l) (ns.length + 1)).map V.int)) := fun l hl => by
      have hx' : qs[l]? = some (qs[l]'(by omega)) := List.getElem?_eq_getElem (by omega)
      obtain ⟨lr, hlr, el⟩ := pair_get ll.it hx'
      have hle' := hok l lr hlr
      subst hle'
      exact ⟨_, map_ref_at hx', el⟩
    obtain ⟨a0, ha0, ea0⟩ := way m (Nat.le_refl _)
    refine i_ixN m (v := .ref a0) ll.at_ rfl ha0 (i_ixI ea0 (by decide) (by rw [row_len]; omega) ?_)
    rw [show (0 : Int).toNat = 0 from rfl, row_getD (by omega)]
    refine ⟨y, 0, M14.cnt ns lo hi m 0 - 1, rfl, ?_⟩
    rcases hy.same (s1.trans s2) with o | ⟨i, rfl, hi'⟩
    · exact .inr ⟨o, bT ⟨by decide, q H2 (s1.trans s2)⟩⟩
    · exact .inl ⟨i, rfl, bIs (by simp; omega) ⟨by decide, q H2 (s1.trans s2)⟩⟩

end
end K

set_option linter.all false
set_option Elab.async false
set_option maxRecDepth 100000
set_option maxHeartbeats 4000000
namespace K
open PySem L2
section
variable {C : Addr} {Z : Ecl} {P : Program} {w : World} {K : PySem.W.Frag} {mg : Str → Option Value} {base : Heap} {f : Addr} {fd : FuncData}

abbrev s_law_two_bounds : Stmt := top 23
theorem sc_law_two_bounds : FnScope ["hand", "row", "total", "some", "k", "begin", "end", "two"] ["hand", "row"] (defScope s_law_two_bounds) := ⟨rfl, rfl, rfl, by decide +kernel, rfl, by decide +kernel, by decide +kernel⟩
theorem l_law_two_bounds_begin : Loc (defScope s_law_two_bounds) "begin" := Or.inl (by kernel_rfl)
theorem l_law_two_bounds_end : Loc (defScope s_law_two_bounds) "end" := Or.inl (by kernel_rfl)
theorem l_law_two_bounds_k : Loc (defScope s_law_two_bounds) "k" := Or.inl (by kernel_rfl)
theorem l_law_two_bounds_some : Loc (defScope s_law_two_bounds) "some" := Or.inl (by kernel_rfl)
theorem l_law_two_bounds_total : Loc (defScope s_law_two_bounds) "total" := Or.inl (by kernel_rfl)
theorem l_law_two_bounds_two : Loc (defScope s_law_two_bounds) "two" := Or.inl (by kernel_rfl)
theorem v_law_two_bounds_begin : Vis (defScope s_law_two_bounds) "begin" := Or.inl (by kernel_rfl)
theorem v_law_two_bounds_end : Vis (defScope s_law_two_bounds) "end" := Or.inl (by kernel_rfl)
theorem v_law_two_bounds_hand : Vis (defScope s_law_two_bounds) "hand" := Or.inl (by kernel_rfl)
theorem v_law_two_bounds_row : Vis (defScope s_law_two_bounds) "row" := Or.inl (by kernel_rfl)
theorem v_law_two_bounds_some : Vis (defScope s_law_two_bounds) "some" := Or.inl (by kernel_rfl)
theorem v_law_two_bounds_total : Vis (defScope s_law_two_bounds) "total" := Or.inl (by kernel_rfl)
theorem v_law_two_bounds_two : Vis (defScope s_law_two_bounds) "two" := Or.inl (by kernel_rfl)
theorem g_law_two_bounds__law_draw : (defScope s_law_two_bounds).names.lookup ("_law_draw" : Str) = some NameKind.globalImplicit := by kernel_rfl
theorem g_law_two_bounds_len : (defScope s_law_two_bounds).names.lookup ("len" : Str) = some NameKind.globalImplicit := by kernel_rfl
theorem g_law_two_bounds_max : (defScope s_law_two_bounds).names.lookup ("max" : Str) = some NameKind.globalImplicit := by kernel_rfl
theorem g_law_two_bounds_min : (defScope s_law_two_bounds).names.lookup ("min" : Str) = some NameKind.globalImplicit := by kernel_rfl
theorem g_law_two_bounds_range : (defScope s_law_two_bounds).names.lookup ("range" : Str) = some NameKind.globalImplicit := by kernel_rfl
theorem g_law_two_bounds_sorted : (defScope s_law_two_bounds).names.lookup ("sorted" : Str) = some NameKind.globalImplicit := by kernel_rfl
theorem g_law_two_bounds_sum : (defScope s_law_two_bounds).names.lookup ("sum" : Str) = some NameKind.globalImplicit := by kernel_rfl
def t_law_two_bounds {cdv : Value} {A : Around} {outer : List Env} {s : Shared} {H : Hp} {E : XK} (B : Bl mg) (D_law_draw : Def P w K mg base 1 "_law_draw" ["hand", "limit"] sp_law_draw) (hr : Room 1 (A.deeper (PyProof.Rows.envOfC "_law_two_bounds" (defScope s_law_two_bounds) s.heap.objs.size f cdv))) :
    { t : TS // QB (cxOf CX0 P w K mg base ["hand", "row", "total", "some", "k", "begin", "end", "two"] "_law_two_bounds" (defScope s_law_two_bounds) f cdv A outer s H E).nox (defBody s_law_two_bounds) t } :=
  ⟨_, (qb_cons (qs_set (i := 2) sc_law_two_bounds.nd rfl l_law_two_bounds_total (.inl rfl) (qe_cB (kSum (K := K) rfl rfl) g_law_two_bounds_sum B.sum boot_sum' (qa_cons (qv 1 rfl v_law_two_bounds_row) qa_nil)))
    (qb_cons (qs_set (i := 3) sc_law_two_bounds.nd rfl l_law_two_bounds_some (.inl rfl) (qe_lst (qa_cons qe_int (qa_cons (qv 2 rfl v_law_two_bounds_total) (qa_cons (qe_cB (kMax (K := K) rfl rfl) g_law_two_bounds_max B.max boot_max' (qa_cons (qv 1 rfl v_law_two_bounds_row) qa_nil)) (qa_cons (qe_cB (kMin (K := K) rfl rfl) g_law_two_bounds_min B.min boot_min' (qa_cons (qv 1 rfl v_law_two_bounds_row) qa_nil)) (qa_cons (qe_op opPow qe_int qe_int) (qa_cons (qe_op opSub qe_int (qe_op opPow qe_int qe_int)) (qa_cons (qe_op opFdiv (qv 2 rfl v_law_two_bounds_total) qe_int) (qa_cons (qe_un unNeg qe_int) qa_nil))))))))))
    (qb_mid (qs_for PassesOwn.never rfl (qi_r1 g_law_two_bounds_range B.range (qa_cons qe_int qa_nil)) (qg_name (i := 4) sc_law_two_bounds.nd rfl l_law_two_bounds_k (.inl rfl)) (qb_cons (qs_set (i := 5) sc_law_two_bounds.nd rfl l_law_two_bounds_begin (.inl rfl) (qe_def D_law_draw hr (by decide) g_law_two_bounds__law_draw (qa_cons (qv 0 rfl v_law_two_bounds_hand) (qa_cons (qe_cB (kLen (K := K) rfl) g_law_two_bounds_len B.len boot_len' (qa_cons (qv 1 rfl v_law_two_bounds_row) qa_nil)) qa_nil))))
    (qb_cons (qs_set (i := 6) sc_law_two_bounds.nd rfl l_law_two_bounds_end (.inl rfl) (qe_op opAdd (qe_op opAdd (qv 5 rfl v_law_two_bounds_begin) qe_int) (qe_def D_law_draw hr (by decide) g_law_two_bounds__law_draw (qa_cons (qv 0 rfl v_law_two_bounds_hand) (qa_cons (qe_cB (kMin (K := K) rfl rfl) g_law_two_bounds_min B.min boot_min' (qa_cons qe_int (qa_cons (qe_op opSub (qe_cB (kLen (K := K) rfl) g_law_two_bounds_len B.len boot_len' (qa_cons (qv 1 rfl v_law_two_bounds_row) qa_nil)) (qv 5 rfl v_law_two_bounds_begin)) qa_nil))) qa_nil)))))
    (qb_one (qs_ex (ke_m1 (K := K) rfl PySem.F.plainAttrs_list PySem.F.slot_list_append PySem.F.type_list_append mtApp (qv 3 rfl v_law_two_bounds_some) (qe_op opSub (qe_op opAdd (qe_cB (kSum (K := K) rfl rfl) g_law_two_bounds_sum B.sum boot_sum' (qa_cons (ke_slice (K := K) rfl (qv 1 rfl v_law_two_bounds_row) (qo_some (qv 5 rfl v_law_two_bounds_begin)) (qo_some (qv 6 rfl v_law_two_bounds_end))) qa_nil)) (qe_def D_law_draw hr (by decide) g_law_two_bounds__law_draw (qa_cons (qv 0 rfl v_law_two_bounds_hand) (qa_cons qe_int qa_nil)))) qe_int)))))))
    (qb_cons (qs_set (i := 7) sc_law_two_bounds.nd rfl l_law_two_bounds_two (.inl rfl) (qe_lst (qa_cons (ke_ix (K := K) rfl (qv 3 rfl v_law_two_bounds_some) (qe_def D_law_draw hr (by decide) g_law_two_bounds__law_draw (qa_cons (qv 0 rfl v_law_two_bounds_hand) (qa_cons qe_int qa_nil))) (fun _ _ => rfl)) (qa_cons (ke_ix (K := K) rfl (qv 3 rfl v_law_two_bounds_some) (qe_def D_law_draw hr (by decide) g_law_two_bounds__law_draw (qa_cons (qv 0 rfl v_law_two_bounds_hand) (qa_cons qe_int qa_nil))) (fun _ _ => rfl)) qa_nil))))
    (qb_mid (qs_if (qt_cmp opGt (qe_def D_law_draw hr (by decide) g_law_two_bounds__law_draw (qa_cons (qv 0 rfl v_law_two_bounds_hand) (qa_cons qe_int qa_nil))) qe_int) (qb_one (qs_set (i := 7) sc_law_two_bounds.nd rfl l_law_two_bounds_two (.inl rfl) (qe_cB (kSorted (K := K) rfl) g_law_two_bounds_sorted B.sorted boot_sorted' (qa_cons (qv 7 rfl v_law_two_bounds_two) qa_nil)))) qb_nil)
    (qb_one (qs_ret (qv 7 rfl v_law_two_bounds_two))))))))⟩
def sp_law_two_bounds : Sp := fun vs H Q _ => ∃ (h r : Addr) (ns : List Int), vs = [.ref h, .ref r] ∧ HandAt H h ∧ H r = some (.lst (ns.map V.int)) ∧ RowN ns ∧ r ≠ h ∧ ∀ (p : Addr) (lo hi : Int) (H' : Hp), HandAt H' h → Kp [h] H H' → H p = none → p ≠ h → H' p = some (.lst [.int lo, .int hi]) → Q (.ref p) H'
theorem ok_law_two_bounds (B : Bl mg) (D_law_draw : Def P w K mg base 1 "_law_draw" ["hand", "limit"] sp_law_draw) (F : Fun K "_law_two_bounds" "_law_two_bounds" s_law_two_bounds f fd) : FnOk P w K mg base CX0 2 f fd ["hand", "row"] sp_law_two_bounds := by
  refine F.okq sc_law_two_bounds (fun vs H Q E h => ?_) (fun cdv A outer s H vs Q E hr h => ?_)
  · obtain ⟨h, r, ns, rfl, _⟩ := h; rfl
  obtain ⟨a, r, ns, rfl, hh, hr0, rn, nra, q⟩ := h
  have hne : ns ≠ [] := fun z => by have := rn.ne; rw [z] at this; simp at this
  have hlen := rn.le
  have hlen1 := rn.ne
  refine ⟨t_law_two_bounds B D_law_draw hr, ?_⟩
  refine i_sum (SqL.of hr0) (i_max (SqL.of hr0) hne fun M hM hmax => i_min (SqL.of hr0) hne fun M' hM' hmin => ?_)
  refine ⟨⟨by decide, by decide, by decide⟩, ⟨by decide, by decide, by decide⟩, ⟨by decide, by decide⟩, ?_⟩
  refine i_newL (by show 8 ≤ sizeLine; decide) fun p H1 hp s1 e1 => ?_
  have nap : p ≠ a := (hh.ne hp).symm
  refine ⟨fun σ H' => ∃ bs : List Int, HandAt H' a ∧ Kp [a] H H' ∧ H' p = some (.lst (bs.map V.int)) ∧ bs.length = 13 ∧ ∃ o4 o5 o6 o7, σ = [some (.ref a), some (.ref r), some (.int ns.sum), some (.ref p), o4, o5, o6, o7], ?_, ?_⟩
  · refine ⟨⟨by decide, by decide⟩, for_range (fun i σ H' => ∃ bs : List Int, HandAt H' a ∧ Kp [a] H H' ∧ H' p = some (.lst (bs.map V.int)) ∧ bs.length = 8 + i ∧ ∃ o4 o5 o6 o7, σ = [some (.ref a), some (.ref r), some (.int ns.sum), some (.ref p), o4, o5, o6, o7]) ?_ ?_ ?_⟩
    · exact ⟨[0, ns.sum, M, M', 10 ^ 30, 0 - 10 ^ 30, ns.sum / 2, -1], hh.same s1, s1.kp, e1, rfl, _, _, _, _, rfl⟩
    · rintro i σ H2 hi ⟨bs, hh2, k2, e2, hl2, o4, o5, o6, o7, rfl⟩
      have hi' : i < 5 := hi
      have hr2 := k2.one nra hr0
      refine i_lenI hr2 ⟨a, ns.length, rfl, hh2, by omega, by omega, fun g H3 g0 g1 hh3 k3 => ?_⟩
      have hr3 := k3.one nra hr2
      refine i_lenI hr3 ⟨a, min 6 ((ns.length : Int) - g), rfl, hh3, by omega, by omega, fun g' H4 g0' g1' hh4 k4 => ?_⟩
      have hr4 := k4.one nra hr3
      have e4 := k4.one nap (k3.one nap e2)
      refine ⟨i_tyL e4, ?_⟩
      refine i_sl (SqL.of hr4) fun q5 H5 hq5 s5 e5 => ?_
      rw [cutV_ints] at e5
      refine i_sum (SqL.of e5) ⟨a, 3, rfl, hh4.same s5, by decide, by decide, fun g'' H6 g0'' g1'' hh6 k6 => ?_⟩
      refine i_appI (k6.one nap (s5 _ _ e4)) (by omega) fun H7 k7 e7 => ?_
      have hp2 : H p = none := hp
      exact ⟨_, hh6.kp k7 (by simpa using Ne.symm nap), ((((k2.trans k3).trans k4).same s5).trans k6).new k7 hp2, e7, by simp [hl2]; omega, _, _, _, _, rfl⟩
    · rintro σ H' ⟨bs, h1, h2, h3, h4, o⟩
      exact ⟨bs, h1, h2, h3, h4, o⟩
  rintro σ H2 ⟨bs, hh2, k2, e2, hl2, o4, o5, o6, o7, rfl⟩
  refine ⟨a, 13, rfl, hh2, by decide, by decide, fun g1 H3 g10 g11 hh3 k3 => ?_⟩
  have e3 := k3.one nap e2
  refine i_ixI e3 g10 (by omega) ?_
  refine ⟨a, 13, rfl, hh3, by decide, by decide, fun g2 H4 g20 g21 hh4 k4 => ?_⟩
  have e4 := k4.one nap e3
  refine i_ixI e4 g20 (by omega) ?_
  refine i_newL (by show 2 ≤ sizeLine; decide) fun tw H5 htw s5 e5 => ?_
  have k5 : Kp [a] H H5 := (((k2.trans k3).trans k4).same s5)
  have ntw : tw ≠ a := (hh4.ne htw).symm
  have htw0 : H tw = none := ((k2.trans k3).trans k4).free (by simpa using ntw) htw
  generalize bs.getD g1.toNat 0 = x at e5
  generalize bs.getD g2.toNat 0 = y at e5
  refine ⟨fun σ H' => ∃ (t : Addr) (lo hi : Int), HandAt H' a ∧ Kp [a] H H' ∧ H t = none ∧ t ≠ a ∧ H' t = some (.lst [.int lo, .int hi]) ∧ ∃ o4 o5 o6, σ = [some (.ref a), some (.ref r), some (.int ns.sum), some (.ref p), o4, o5, o6, some (.ref t)], ?_, ?_⟩
  · refine ⟨a, 5, rfl, hh4.same s5, by decide, by decide, fun g5 H6 g50 g51 hh6 k6 => dec2 (fun c => ?_) (fun c => ?_)⟩
    · have e6 : H6 tw = some (.lst (([x, y] : List Int).map V.int)) := k6.one ntw e5
      refine i_sorted (SqL.of e6) (by simp) fun p7 H7 ns' hperm hp7 s7 e7 => ?_
      have n7 : p7 ≠ a := (hh6.ne hp7).symm
      have hl := hperm.length_eq
      match ns', hl, e7 with
      | [u, v], _, e7 => exact ⟨p7, u, v, hh6.same s7, (k5.trans k6).same s7, (k5.trans k6).free (by simpa using n7) hp7, n7, e7, _, _, _, rfl⟩
    · exact ⟨tw, x, y, hh6, k5.trans k6, htw0, ntw, k6.one ntw e5, _, _, _, rfl⟩
  · rintro σ H6 ⟨t, lo, hi, h1, h2, h3, h4, h5, o4, o5, o6, rfl⟩
    exact q t lo hi H6 h1 h2 h3 h4 h5

end
end K

set_option linter.all false
set_option Elab.async false
set_option maxRecDepth 100000
set_option maxHeartbeats 4000000
namespace K
open PySem L2
section
variable {C : Addr} {Z : Ecl} {P : Program} {w : World} {K : PySem.W.Frag} {mg : Str → Option Value} {base : Heap} {f : Addr} {fd : FuncData}

abbrev s_law_just : Stmt := top 25
theorem sc_law_just : FnScope ["caught", "at", "told"] ["caught", "at"] (defScope s_law_just) := ⟨rfl, rfl, rfl, by decide +kernel, rfl, by decide +kernel, by decide +kernel⟩
theorem l_law_just_told : Loc (defScope s_law_just) "told" := Or.inl (by kernel_rfl)
theorem v_law_just_caught : Vis (defScope s_law_just) "caught" := Or.inl (by kernel_rfl)
theorem v_law_just_told : Vis (defScope s_law_just) "told" := Or.inl (by kernel_rfl)
theorem g_law_just_NoCommand : (defScope s_law_just).names.lookup ("NoCommand" : Str) = some NameKind.globalImplicit := by kernel_rfl
theorem g_law_just_NoMany : (defScope s_law_just).names.lookup ("NoMany" : Str) = some NameKind.globalImplicit := by kernel_rfl
theorem g_law_just_NoNumber : (defScope s_law_just).names.lookup ("NoNumber" : Str) = some NameKind.globalImplicit := by kernel_rfl
theorem g_law_just_NoPlace : (defScope s_law_just).names.lookup ("NoPlace" : Str) = some NameKind.globalImplicit := by kernel_rfl
theorem g_law_just_NoText : (defScope s_law_just).names.lookup ("NoText" : Str) = some NameKind.globalImplicit := by kernel_rfl
theorem g_law_just_ValueError : (defScope s_law_just).names.lookup ("ValueError" : Str) = some NameKind.globalImplicit := by kernel_rfl
theorem g_law_just_isinstance : (defScope s_law_just).names.lookup ("isinstance" : Str) = some NameKind.globalImplicit := by kernel_rfl
theorem g_law_just_range : (defScope s_law_just).names.lookup ("range" : Str) = some NameKind.globalImplicit := by kernel_rfl
def t_law_just {cdv : Value} {A : Around} {outer : List Env} {s : Shared} {H : Hp} {E : XK} (B : Bl mg) (Y : ErrT K mg Z) (hr : Room 0 (A.deeper (PyProof.Rows.envOfC "_law_just" (defScope s_law_just) s.heap.objs.size f cdv))) :
    { t : TS // QB (cxOf CX0 P w K mg base ["caught", "at", "told"] "_law_just" (defScope s_law_just) f cdv A outer s H E).nox (defBody s_law_just) t } :=
  ⟨_, (qb_cons (qs_set (i := 2) sc_law_just.nd rfl l_law_just_told (.inl rfl) (qe_lst (qa_cons (qe_cB (kIsx (K := K) rfl) g_law_just_isinstance B.isinstance boot_isinstance' (qa_cons (qv 0 rfl v_law_just_caught) (qa_cons (qe_clsN g_law_just_NoMany Y.x_NoMany.bound) qa_nil))) (qa_cons (qe_cB (kIsx (K := K) rfl) g_law_just_isinstance B.isinstance boot_isinstance' (qa_cons (qv 0 rfl v_law_just_caught) (qa_cons (qe_clsN g_law_just_NoPlace Y.x_NoPlace.bound) qa_nil))) (qa_cons (qe_cB (kIsx (K := K) rfl) g_law_just_isinstance B.isinstance boot_isinstance' (qa_cons (qv 0 rfl v_law_just_caught) (qa_cons (qe_clsN g_law_just_NoNumber Y.x_NoNumber.bound) qa_nil))) qa_nil)))))
    (qb_cons (qs_set (i := 2) sc_law_just.nd rfl l_law_just_told (.inl rfl) (qe_op opAdd (qv 2 rfl v_law_just_told) (qe_lst (qa_cons (qe_cB (kIsx (K := K) rfl) g_law_just_isinstance B.isinstance boot_isinstance' (qa_cons (qv 0 rfl v_law_just_caught) (qa_cons (qe_clsN g_law_just_NoText Y.x_NoText.bound) qa_nil))) (qa_cons (qe_cB (kIsx (K := K) rfl) g_law_just_isinstance B.isinstance boot_isinstance' (qa_cons (qv 0 rfl v_law_just_caught) (qa_cons (qe_clsN g_law_just_NoCommand Y.x_NoCommand.bound) qa_nil))) qa_nil)))))
    (qb_one (qs_ret (ke_and (K := K) rfl (qe_cB (kIsx (K := K) rfl) g_law_just_isinstance B.isinstance boot_isinstance' (qa_cons (qv 0 rfl v_law_just_caught) (qa_cons (qe_ty g_law_just_ValueError Y.b_ValueError boot_ValueError) qa_nil))) (qe_one (qe_cmp (kEqG (K := K) rfl hr) (qv 2 rfl v_law_just_told) (qe_cp ["k", "at"] [none, some 1] rfl (qi_r1 g_law_just_range B.range (qa_cons qe_int qa_nil)) (fun _ _ _ _ _ _ => (qg_name (i := 0) (show (["k", "at"] : List Str).Nodup by decide +kernel) rfl (by first | exact Or.inl rfl | exact Or.inr rfl) (by first | exact .inl rfl | exact .inr rfl))) (fun _ _ _ _ _ _ => qif_nil) (fun _ _ _ _ _ _ => (qe_cmp (kEqG (K := K) rfl hr) (qv 0 rfl (by first | exact Or.inl rfl | exact Or.inr (Or.inl rfl) | exact Or.inr (Or.inr rfl))) (qv 1 rfl (by first | exact Or.inl rfl | exact Or.inr (Or.inl rfl) | exact Or.inr (Or.inr rfl)))))))))))))⟩
def sp_law_just (Z : Ecl) : Sp := fun vs H Q _ => ∃ (a : Addr) (at_ : Int), vs = [.ref a, .int at_] ∧ ((at_ = 0 ∧ H a = some (exo (.ref Z.NoMany) a)) ∨ (at_ = 1 ∧ H a = some (exo (.ref Z.NoPlace) a))) ∧ ∀ H', Same H H' → Q (.bl true) H'
theorem ok_law_just (B : Bl mg) (Y : ErrT K mg Z) (F : Fun K "_law_just" "_law_just" s_law_just f fd) : FnOk P w K mg base CX0 1 f fd ["caught", "at"] (sp_law_just Z) := by
  refine F.okq sc_law_just (fun vs H Q E h => ?_) (fun cdv A outer s H vs Q E hr h => ?_)
  · obtain ⟨a, at_, rfl, _⟩ := h; rfl
  obtain ⟨a, at_, rfl, ha, q⟩ := h
  refine ⟨t_law_just B Y  hr, ?_⟩
  rcases ha with ⟨rfl, ha⟩ | ⟨rfl, ha⟩
  · refine i_isx ha Y.i_NoMany rfl Y.k_NoMany_NoMany (i_isx ha Y.i_NoMany rfl Y.k_NoMany_NoPlace (i_isx ha Y.i_NoMany rfl Y.k_NoMany_NoNumber (i_newL (by show 3 ≤ sizeLine; decide) fun p1 H1 hp1 s1 e1 => ?_)))
    refine i_isx (s1 _ _ ha) Y.i_NoMany rfl Y.k_NoMany_NoText (i_isx (s1 _ _ ha) Y.i_NoMany rfl Y.k_NoMany_NoCommand (i_newL (by show 2 ≤ sizeLine; decide) fun p2 H2 hp2 s2 e2 => ?_))
    refine i_cat (s2 _ _ e1) e2 (by show 3 + 2 ≤ sizeLine; decide) fun p3 H3 hp3 s3 e3 => ?_
    refine i_isx (s3 _ _ (s2 _ _ (s1 _ _ ha))) Y.i_NoMany rfl Y.k_NoMany_ValueError (bT ?_)
    refine ⟨⟨by decide, by decide⟩, comp_rng (fun i D σ H' ys => ys = (List.range i).map (fun k : Nat => V.bl (decide ((k : Int) = 0))) ∧ Same H3 H' ∧ ∃ o, σ = [o, some (.int 0)]) ?_ ?_ ?_⟩
    · intro D H' hD s' e'
      exact ⟨rfl, s', _, rfl⟩
    · rintro i D σ H' ys hi hD ⟨rfl, s', o, rfl⟩ eD
      refine bT ⟨eD, sz_lt (by rw [List.length_map, List.length_range]; have : i < (5 : Int).toNat := hi; have e5 : (5 : Int).toNat = 5 := rfl; omega), fun H7 k7 e7 => ⟨?_, s'.new k7 hD, _, rfl⟩⟩
      rw [List.range_succ, List.map_append, List.map_cons, List.map_nil]
      congr 3
      simp
    · rintro D σ H4 ys hD ⟨rfl, s4, _⟩ eD
      exact i_eqD (d := .list [.bool true, .bool false, .bool false, .bool false, .bool false]) 1 (by decide) (.inl ⟨_, _, .inl (s4 _ _ e3), rfl, .cons rfl (.cons rfl (.cons rfl (.cons rfl (.cons rfl .nil))))⟩) (.inl ⟨_, _, .inl eD, rfl, .cons rfl (.cons rfl (.cons rfl (.cons rfl (.cons rfl .nil))))⟩) (q H4 (s1.trans (s2.trans (s3.trans s4))))
  · refine i_isx ha Y.i_NoPlace rfl Y.k_NoPlace_NoMany (i_isx ha Y.i_NoPlace rfl Y.k_NoPlace_NoPlace (i_isx ha Y.i_NoPlace rfl Y.k_NoPlace_NoNumber (i_newL (by show 3 ≤ sizeLine; decide) fun p1 H1 hp1 s1 e1 => ?_)))
    refine i_isx (s1 _ _ ha) Y.i_NoPlace rfl Y.k_NoPlace_NoText (i_isx (s1 _ _ ha) Y.i_NoPlace rfl Y.k_NoPlace_NoCommand (i_newL (by show 2 ≤ sizeLine; decide) fun p2 H2 hp2 s2 e2 => ?_))
    refine i_cat (s2 _ _ e1) e2 (by show 3 + 2 ≤ sizeLine; decide) fun p3 H3 hp3 s3 e3 => ?_
    refine i_isx (s3 _ _ (s2 _ _ (s1 _ _ ha))) Y.i_NoPlace rfl Y.k_NoPlace_ValueError (bT ?_)
    refine ⟨⟨by decide, by decide⟩, comp_rng (fun i D σ H' ys => ys = (List.range i).map (fun k : Nat => V.bl (decide ((k : Int) = 1))) ∧ Same H3 H' ∧ ∃ o, σ = [o, some (.int 1)]) ?_ ?_ ?_⟩
    · intro D H' hD s' e'
      exact ⟨rfl, s', _, rfl⟩
    · rintro i D σ H' ys hi hD ⟨rfl, s', o, rfl⟩ eD
      refine bT ⟨eD, sz_lt (by rw [List.length_map, List.length_range]; have : i < (5 : Int).toNat := hi; have e5 : (5 : Int).toNat = 5 := rfl; omega), fun H7 k7 e7 => ⟨?_, s'.new k7 hD, _, rfl⟩⟩
      rw [List.range_succ, List.map_append, List.map_cons, List.map_nil]
      congr 3
      simp
    · rintro D σ H4 ys hD ⟨rfl, s4, _⟩ eD
      exact i_eqD (d := .list [.bool false, .bool true, .bool false, .bool false, .bool false]) 1 (by decide) (.inl ⟨_, _, .inl (s4 _ _ e3), rfl, .cons rfl (.cons rfl (.cons rfl (.cons rfl (.cons rfl .nil))))⟩) (.inl ⟨_, _, .inl eD, rfl, .cons rfl (.cons rfl (.cons rfl (.cons rfl (.cons rfl .nil))))⟩) (q H4 (s1.trans (s2.trans (s3.trans s4))))

end
end K

set_option linter.all false
set_option Elab.async false
set_option maxRecDepth 100000
set_option maxHeartbeats 4000000
namespace K
open PySem L2
section
variable {C : Addr} {Z : Ecl} {P : Program} {w : World} {K : PySem.W.Frag} {mg : Str → Option Value} {base : Heap} {f : Addr} {fd : FuncData}

abbrev s_law_refused : Stmt := top 26
theorem sc_law_refused : FnScope ["row", "many", "two", "place", "at", "caught", "handed", "e"] ["row", "many", "two", "place", "at"] (defScope s_law_refused) := ⟨rfl, rfl, rfl, by decide +kernel, rfl, by decide +kernel, by decide +kernel⟩
theorem l_law_refused_caught : Loc (defScope s_law_refused) "caught" := Or.inl (by kernel_rfl)
theorem l_law_refused_handed : Loc (defScope s_law_refused) "handed" := Or.inl (by kernel_rfl)
theorem v_law_refused_at : Vis (defScope s_law_refused) "at" := Or.inl (by kernel_rfl)
theorem v_law_refused_caught : Vis (defScope s_law_refused) "caught" := Or.inl (by kernel_rfl)
theorem v_law_refused_e : Vis (defScope s_law_refused) "e" := Or.inl (by kernel_rfl)
theorem v_law_refused_handed : Vis (defScope s_law_refused) "handed" := Or.inl (by kernel_rfl)
theorem v_law_refused_many : Vis (defScope s_law_refused) "many" := Or.inl (by kernel_rfl)
theorem v_law_refused_place : Vis (defScope s_law_refused) "place" := Or.inl (by kernel_rfl)
theorem v_law_refused_row : Vis (defScope s_law_refused) "row" := Or.inl (by kernel_rfl)
theorem v_law_refused_two : Vis (defScope s_law_refused) "two" := Or.inl (by kernel_rfl)
theorem g_law_refused_CutError : (defScope s_law_refused).names.lookup ("CutError" : Str) = some NameKind.globalImplicit := by kernel_rfl
theorem g_law_refused__law_just : (defScope s_law_refused).names.lookup ("_law_just" : Str) = some NameKind.globalImplicit := by kernel_rfl
theorem g_law_refused_cut_at : (defScope s_law_refused).names.lookup ("cut_at" : Str) = some NameKind.globalImplicit := by kernel_rfl
theorem g_law_refused_cuts_between : (defScope s_law_refused).names.lookup ("cuts_between" : Str) = some NameKind.globalImplicit := by kernel_rfl
theorem g_law_refused_list : (defScope s_law_refused).names.lookup ("list" : Str) = some NameKind.globalImplicit := by kernel_rfl
theorem g_law_refused_repr : (defScope s_law_refused).names.lookup ("repr" : Str) = some NameKind.globalImplicit := by kernel_rfl
def t_law_refused {cdv : Value} {A : Around} {outer : List Env} {s : Shared} {H : Hp} {E : XK} (B : Bl mg) (Y : ErrT K mg Z) (D_cuts_between : DefX P w K mg base 4 "cuts_between" ["row", "many", "low", "high"] (sp_cuts_between Z)) (D_cut_at : DefX P w K mg base 4 "cut_at" ["row", "many", "low", "high", "place"] (sp_cut_at Z)) (D_law_just : Def P w K mg base 1 "_law_just" ["caught", "at"] (sp_law_just Z)) (hr : Room 4 (A.deeper (PyProof.Rows.envOfC "_law_refused" (defScope s_law_refused) s.heap.objs.size f cdv))) :
    { t : TS // QB (cxOf CX0 P w K mg base ["row", "many", "two", "place", "at", "caught", "handed", "e"] "_law_refused" (defScope s_law_refused) f cdv A outer s H E).nox (defBody s_law_refused) t } :=
  ⟨_, (qb_cons (qs_set (i := 5) sc_law_refused.nd rfl l_law_refused_caught (.inl rfl) qe_non)
    (qb_cons (qs_set (i := 6) sc_law_refused.nd rfl l_law_refused_handed (.inl rfl) (qe_cT (kList (K := K) rfl) g_law_refused_list B.list boot_list (qa_cons (qv 0 rfl v_law_refused_row) qa_nil)))
    (qb_mid (ks_tryI (K := K) (j := 7) rfl (fun _ _ z => z) rfl rfl (qt_cmp opIs (qv 3 rfl v_law_refused_place) qe_non) D_cuts_between D_cut_at hr (by decide) (by decide) g_law_refused_cuts_between (qa_cons (qv 6 rfl v_law_refused_handed) (qa_cons (qv 1 rfl v_law_refused_many) (qa_cons (ke_ix (K := K) rfl (qv 2 rfl v_law_refused_two) qe_int (fun _ _ => rfl)) (qa_cons (ke_ix (K := K) rfl (qv 2 rfl v_law_refused_two) qe_int (fun _ _ => rfl)) qa_nil)))) g_law_refused_cut_at (qa_cons (qv 6 rfl v_law_refused_handed) (qa_cons (qv 1 rfl v_law_refused_many) (qa_cons (ke_ix (K := K) rfl (qv 2 rfl v_law_refused_two) qe_int (fun _ _ => rfl)) (qa_cons (ke_ix (K := K) rfl (qv 2 rfl v_law_refused_two) qe_int (fun _ _ => rfl)) (qa_cons (ke_ix (K := K) rfl (qv 3 rfl v_law_refused_place) qe_int (fun _ _ => rfl)) qa_nil))))) sc_law_refused.nd g_law_refused_CutError Y.x_CutError.bound rfl (by kernel_rfl) (fun _ => (qb_one (qs_set (i := 5) sc_law_refused.nd rfl l_law_refused_caught (.inl rfl) (qv 7 rfl v_law_refused_e)))))
    (qb_one (qs_ret (ke_and (K := K) rfl (qe_def D_law_just hr (by decide) g_law_refused__law_just (qa_cons (qv 5 rfl v_law_refused_caught) (qa_cons (qv 4 rfl v_law_refused_at) qa_nil))) (qe_one (qe_cmp (kEqG (K := K) rfl hr) (qe_cB (callRepr hr) g_law_refused_repr B.repr boot_repr' (qa_cons (qv 6 rfl v_law_refused_handed) qa_nil)) (qe_cB (callRepr hr) g_law_refused_repr B.repr boot_repr' (qa_cons (qv 0 rfl v_law_refused_row) qa_nil))))))))))⟩
def sp_law_refused : Sp := fun vs H Q _ => ∃ (r tw : Addr) (x pl : V) (ns : List Int) (lo hi at_ : Int), vs = [.ref r, x, .ref tw, pl, .int at_] ∧ H r = some (.lst (ns.map V.int)) ∧ RowN ns ∧ H tw = some (.lst [.int lo, .int hi]) ∧
  ((at_ = 0 ∧ NoM H ns.length x ∧ (pl = .non ∨ ∃ p y ys, pl = .ref p ∧ H p = some (.lst (y :: ys)))) ∨ (at_ = 1 ∧ ∃ (m : Nat) (p : Addr) (y : V) (ys : List V), x = .int m ∧ 1 ≤ m ∧ m ≤ ns.length ∧ pl = .ref p ∧ H p = some (.lst (y :: ys)) ∧ NoPl H (M14.cnt ns lo hi m 0) y)) ∧ ∀ H', Same H H' → Q (.bl true) H'
theorem ok_law_refused (B : Bl mg) (Y : ErrT K mg Z) (D_cuts_between : DefX P w K mg base 4 "cuts_between" ["row", "many", "low", "high"] (sp_cuts_between Z)) (D_cut_at : DefX P w K mg base 4 "cut_at" ["row", "many", "low", "high", "place"] (sp_cut_at Z)) (D_law_just : Def P w K mg base 1 "_law_just" ["caught", "at"] (sp_law_just Z)) (F : Fun K "_law_refused" "_law_refused" s_law_refused f fd) : FnOk P w K mg base CX0 5 f fd ["row", "many", "two", "place", "at"] sp_law_refused := by
  refine F.okq sc_law_refused (fun vs H Q E h => ?_) (fun cdv A outer s H vs Q E hr h => ?_)
  · obtain ⟨r, tw, x, pl, ns, lo, hi, at_, rfl, _⟩ := h; rfl
  obtain ⟨r, tw, x, pl, ns, lo, hi, at_, rfl, hr0, rn, ht, hx, q⟩ := h
  have hle := rn.le
  refine ⟨t_law_refused B Y D_cuts_between D_cut_at D_law_just hr, ?_⟩
  refine i_copy hr0 fun hd H1 hhd s1 e1 => ?_
  refine ⟨fun σ H' => ∃ a, ((at_ = 0 ∧ H' a = some (exo (.ref Z.NoMany) a)) ∨ (at_ = 1 ∧ H' a = some (exo (.ref Z.NoPlace) a))) ∧ Same H1 H' ∧ σ = [some (.ref r), some x, some (.ref tw), some pl, some (.int at_), some (.ref a), some (.ref hd), none], ?_, ?_⟩
  · have ht1 := s1 _ _ ht
    rcases hx with ⟨rfl, hm, rfl | ⟨p, y, ys, rfl, hp⟩⟩ | ⟨rfl, m, p, y, ys, rfl, m1, m2, rfl, hp, hy⟩
    · refine bT (i_ixN (v := .int lo) 0 ht1 rfl rfl (i_ixN (v := .int hi) 1 ht1 rfl rfl (.inr ⟨hd, x, ns, lo, hi, rfl, e1, hm.same s1, Y.m_NoMany_CutError, fun a ha => ?_⟩)))
      exact ⟨a, .inl ⟨rfl, upd_same⟩, same_upd ha, rfl⟩
    · refine bF (i_ixN (v := .int lo) 0 ht1 rfl rfl (i_ixN (v := .int hi) 1 ht1 rfl rfl (i_ixN (v := y) 0 (s1 _ _ hp) rfl rfl (.inr (.inl ⟨hd, x, y, ns, lo, hi, rfl, e1, hm.same s1, Y.m_NoMany_CutError, fun a ha => ?_⟩)))))
      exact ⟨a, .inl ⟨rfl, upd_same⟩, same_upd ha, rfl⟩
    · refine bF (i_ixN (v := .int lo) 0 ht1 rfl rfl (i_ixN (v := .int hi) 1 ht1 rfl rfl (i_ixN (v := y) 0 (s1 _ _ hp) rfl rfl (.inr (.inr ⟨hd, ns, m, lo, hi, y, rfl, e1, by omega, rn.nn, m1, m2, hy.same s1, fun H2 s2 => ⟨Y.m_NoPlace_CutError, fun a ha => ?_⟩⟩)))))
      exact ⟨a, .inr ⟨rfl, upd_same⟩, s2.trans (same_upd ha), rfl⟩
  · rintro σ H2 ⟨a, ha, s2, rfl⟩
    refine ⟨a, at_, rfl, ha, fun H3 s3 => bT ?_⟩
    have s13 := s2.trans s3
    have hsm : ∀ n ∈ ns, n.natAbs < 10 ^ 40 := fun n hn => by have := rn.nn n hn; have := rn.ub n hn; omega
    refine i_repr 1 (.inl ⟨_, _, .inl (s13 _ _ e1), rfl, paired_ints 0 ns⟩) (shw_ints2 hsm (by omega)) (i_repr 1 (.inl ⟨_, _, .inl (s13 _ _ (s1 _ _ hr0)), rfl, paired_ints 0 ns⟩) (shw_ints2 hsm (by omega)) ?_)
    have qq := q H3 (s1.trans s13)
    generalize (PyData.list (List.map PyData.int ns)).shown = u
    exact (show Q (.bl (id (decide (u = u)))) H3 from by rw [decide_eq_true rfl]; exact qq)

end
end K

set_option linter.all false
set_option Elab.async false
set_option maxRecDepth 100000
set_option maxHeartbeats 4000000
namespace K
open PySem L2
section
variable {C : Addr} {Z : Ecl} {P : Program} {w : World} {K : PySem.W.Frag} {mg : Str → Option Value} {base : Heap} {f : Addr} {fd : FuncData}

abbrev s_law_no_many : Stmt := top 24
theorem sc_law_no_many : FnScope ["hand", "row", "far", "some"] ["hand", "row"] (defScope s_law_no_many) := ⟨rfl, rfl, rfl, by decide +kernel, rfl, by decide +kernel, by decide +kernel⟩
theorem l_law_no_many_far : Loc (defScope s_law_no_many) "far" := Or.inl (by kernel_rfl)
theorem l_law_no_many_some : Loc (defScope s_law_no_many) "some" := Or.inl (by kernel_rfl)
theorem v_law_no_many_far : Vis (defScope s_law_no_many) "far" := Or.inl (by kernel_rfl)
theorem v_law_no_many_hand : Vis (defScope s_law_no_many) "hand" := Or.inl (by kernel_rfl)
theorem v_law_no_many_row : Vis (defScope s_law_no_many) "row" := Or.inl (by kernel_rfl)
theorem v_law_no_many_some : Vis (defScope s_law_no_many) "some" := Or.inl (by kernel_rfl)
theorem g_law_no_many__law_draw : (defScope s_law_no_many).names.lookup ("_law_draw" : Str) = some NameKind.globalImplicit := by kernel_rfl
theorem g_law_no_many_len : (defScope s_law_no_many).names.lookup ("len" : Str) = some NameKind.globalImplicit := by kernel_rfl
theorem g_law_no_many_str : (defScope s_law_no_many).names.lookup ("str" : Str) = some NameKind.globalImplicit := by kernel_rfl
def t_law_no_many {cdv : Value} {A : Around} {outer : List Env} {s : Shared} {H : Hp} {E : XK} (B : Bl mg) (D_law_draw : Def P w K mg base 1 "_law_draw" ["hand", "limit"] sp_law_draw) (hr : Room 1 (A.deeper (PyProof.Rows.envOfC "_law_no_many" (defScope s_law_no_many) s.heap.objs.size f cdv))) :
    { t : TS // QB (cxOf CX0 P w K mg base ["hand", "row", "far", "some"] "_law_no_many" (defScope s_law_no_many) f cdv A outer s H E).nox (defBody s_law_no_many) t } :=
  ⟨_, (qb_cons (qs_set (i := 2) sc_law_no_many.nd rfl l_law_no_many_far (.inl rfl) (qe_op opAdd qe_int (qe_def D_law_draw hr (by decide) g_law_no_many__law_draw (qa_cons (qv 0 rfl v_law_no_many_hand) (qa_cons (qe_op opPow qe_int qe_int) qa_nil)))))
    (qb_cons (qs_set (i := 3) sc_law_no_many.nd rfl l_law_no_many_some (.inl rfl) (qe_lst (qa_cons qe_int (qa_cons (qe_un unNeg qe_int) (qa_cons (qe_op opAdd (qe_cB (kLen (K := K) rfl) g_law_no_many_len B.len boot_len' (qa_cons (qv 1 rfl v_law_no_many_row) qa_nil)) qe_int) (qa_cons (qe_op opAdd (qe_cB (kLen (K := K) rfl) g_law_no_many_len B.len boot_len' (qa_cons (qv 1 rfl v_law_no_many_row) qa_nil)) (qv 2 rfl v_law_no_many_far)) (qa_cons (qe_op opSub qe_int (qv 2 rfl v_law_no_many_far)) (qa_cons (qe_op opPow qe_int qe_int) (qa_cons qe_bl (qa_cons qe_bl (qa_cons qe_non (qa_cons qe_str (qa_cons qe_str (qa_cons (qe_lst (qa_cons qe_int qa_nil)) (qa_cons (qe_tup (qa_cons qe_int qa_nil)) (qa_cons qe_dict0 (qa_cons (qe_lst qa_nil) (qa_cons (qe_tup qa_nil) qa_nil))))))))))))))))))
    (qb_one (qs_ret (qe_op opAdd (qv 3 rfl v_law_no_many_some) (qe_lst (qa_cons (qe_cT callStr g_law_no_many_str B.str boot_str (qa_cons (qe_cB (kLen (K := K) rfl) g_law_no_many_len B.len boot_len' (qa_cons (qv 1 rfl v_law_no_many_row) qa_nil)) qa_nil)) (qa_cons (qe_lst (qa_cons (qe_cB (kLen (K := K) rfl) g_law_no_many_len B.len boot_len' (qa_cons (qv 1 rfl v_law_no_many_row) qa_nil)) qa_nil)) (qa_cons qe_dict1 qa_nil)))))))))⟩
def sp_law_no_many : Sp := fun vs H Q _ => ∃ (h r : Addr) (ns : List Int), vs = [.ref h, .ref r] ∧ HandAt H h ∧ H r = some (.lst (ns.map V.int)) ∧ r ≠ h ∧ ns.length ≤ 1000 ∧ ∀ p xs H', HandAt H' h → Kp [h] H H' → H p = none → H' p = some (.lst xs) → xs.length ≤ 30 → (∀ x ∈ xs, NoM H' ns.length x) → Q (.ref p) H'
theorem ok_law_no_many (B : Bl mg) (D_law_draw : Def P w K mg base 1 "_law_draw" ["hand", "limit"] sp_law_draw) (F : Fun K "_law_no_many" "_law_no_many" s_law_no_many f fd) : FnOk P w K mg base CX0 2 f fd ["hand", "row"] sp_law_no_many := by
  refine F.okq sc_law_no_many (fun vs H Q E h => ?_) (fun cdv A outer s H vs Q E hr h => ?_)
  · obtain ⟨h, r, ns, rfl, _⟩ := h; rfl
  obtain ⟨h, r, ns, rfl, hh, hr0, nr, hle, q⟩ := h
  refine ⟨t_law_no_many B D_law_draw hr, ?_⟩
  refine ⟨⟨by decide, by decide, by decide⟩, ?_⟩
  refine ⟨h, _, rfl, hh, by decide, by decide, fun g H1 g0 g1 hh1 k1 => ?_⟩
  have er1 := k1.one nr hr0
  refine i_lenI er1 (i_lenI er1 ⟨⟨by decide, by decide, by decide⟩, ?_⟩)
  refine i_newL (by show 1 ≤ sizeLine; decide) fun p1 H2 hp1 s2 e2 => i_newT (by show 1 ≤ sizeLine; decide) fun p2 H3 hp2 s3 e3 => i_newE fun p3 H4 hp3 s4 e4 => i_newL (by show 0 ≤ sizeLine; decide) fun p4 H5 hp4 s5 e5 => i_newT (by show 0 ≤ sizeLine; decide) fun p5 H6 hp5 s6 e6 => ?_
  refine i_newL (by show 16 ≤ sizeLine; decide) fun p6 H7 hp6 s7 e7 => ?_
  have s17 : Same H1 H7 := s2.trans (s3.trans (s4.trans (s5.trans (s6.trans s7))))
  have er7 := s17 _ _ er1
  refine i_lenI er7 ⟨by omega, i_lenI er7 (i_newL (by show 1 ≤ sizeLine; decide) fun p8 H8 hp8 s8 e8 => i_newE fun p9 H9 hp9 s9 e9 => i_newL (by show 3 ≤ sizeLine; decide) fun pA HA hpA sA eA => ?_)⟩
  have s7A := s8.trans (s9.trans sA)
  refine i_cat (s7A _ _ e7) eA (by show 16 + 3 ≤ sizeLine; decide) fun pB HB hpB sB eB => ?_
  have s1B := s17.trans (s7A.trans sB)
  have nh : ∀ {a : Addr} {X : Hp}, Same H1 X → X a = none → a ≠ h := fun sx hx z => by subst z; exact absurd (sx.free hx) (by obtain ⟨_, _, q, _⟩ := id hh1; rw [q]; exact fun z => nomatch z)
  refine q pB _ HB (hh1.same s1B) (k1.same s1B) ?_ eB (by show 16 + 3 ≤ 30; decide) ?_
  · exact k1.free (by simp [nh (s17.trans s7A) hpB]) ((s17.trans s7A).free hpB)
  · have w : ∀ {X : Hp} {x : V}, Same X HB → Odd X x → NoM HB ns.length x := fun sx o => .inl (o.same sx)
    intro x hx
    simp only [List.cons_append, List.nil_append, List.mem_cons, List.not_mem_nil, or_false] at hx
    rcases hx with rfl | rfl | rfl | rfl | rfl | rfl | rfl | rfl | rfl | rfl | rfl | rfl | rfl | rfl | rfl | rfl | rfl | rfl | rfl
    · exact .inr ⟨_, rfl, by omega⟩
    · exact .inr ⟨_, rfl, by omega⟩
    · exact .inr ⟨_, rfl, by omega⟩
    · exact .inr ⟨_, rfl, by omega⟩
    · exact .inr ⟨_, rfl, by omega⟩
    · refine .inr ⟨_, rfl, fun z => ?_⟩
      have : (10 : Int) ^ Int.toNat 30 = 1000000000000000000000000000000 := by decide
      omega
    · exact .inl (.bl _)
    · exact .inl (.bl _)
    · exact .inl .non
    · exact .inl (.str _)
    · exact .inl (.str _)
    · exact w (s3.trans (s4.trans (s5.trans (s6.trans (s7.trans (s7A.trans sB)))))) (.lst e2)
    · exact w (s4.trans (s5.trans (s6.trans (s7.trans (s7A.trans sB))))) (.tup e3)
    · exact w (s5.trans (s6.trans (s7.trans (s7A.trans sB)))) (.dct e4)
    · exact w (s6.trans (s7.trans (s7A.trans sB))) (.lst e5)
    · exact w (s7.trans (s7A.trans sB)) (.tup e6)
    · exact .inl (.str _)
    · exact w (s9.trans (sA.trans sB)) (.lst e8)
    · exact w (sA.trans sB) (.dct e9)

end
end K

set_option linter.all false
set_option Elab.async false
set_option maxRecDepth 100000
set_option maxHeartbeats 4000000
namespace K
open PySem L2
section
variable {C : Addr} {Z : Ecl} {P : Program} {w : World} {K : PySem.W.Frag} {mg : Str → Option Value} {base : Heap} {f : Addr} {fd : FuncData}

abbrev s_law_no_places : Stmt := top 27
theorem sc_law_no_places : FnScope ["hand", "every", "far", "some"] ["hand", "every"] (defScope s_law_no_places) := ⟨rfl, rfl, rfl, by decide +kernel, rfl, by decide +kernel, by decide +kernel⟩
theorem l_law_no_places_far : Loc (defScope s_law_no_places) "far" := Or.inl (by kernel_rfl)
theorem l_law_no_places_some : Loc (defScope s_law_no_places) "some" := Or.inl (by kernel_rfl)
theorem v_law_no_places_every : Vis (defScope s_law_no_places) "every" := Or.inl (by kernel_rfl)
theorem v_law_no_places_far : Vis (defScope s_law_no_places) "far" := Or.inl (by kernel_rfl)
theorem v_law_no_places_hand : Vis (defScope s_law_no_places) "hand" := Or.inl (by kernel_rfl)
theorem v_law_no_places_some : Vis (defScope s_law_no_places) "some" := Or.inl (by kernel_rfl)
theorem g_law_no_places__law_draw : (defScope s_law_no_places).names.lookup ("_law_draw" : Str) = some NameKind.globalImplicit := by kernel_rfl
theorem g_law_no_places_str : (defScope s_law_no_places).names.lookup ("str" : Str) = some NameKind.globalImplicit := by kernel_rfl
def t_law_no_places {cdv : Value} {A : Around} {outer : List Env} {s : Shared} {H : Hp} {E : XK} (B : Bl mg) (D_law_draw : Def P w K mg base 1 "_law_draw" ["hand", "limit"] sp_law_draw) (hr : Room 1 (A.deeper (PyProof.Rows.envOfC "_law_no_places" (defScope s_law_no_places) s.heap.objs.size f cdv))) :
    { t : TS // QB (cxOf CX0 P w K mg base ["hand", "every", "far", "some"] "_law_no_places" (defScope s_law_no_places) f cdv A outer s H E).nox (defBody s_law_no_places) t } :=
  ⟨_, (qb_cons (qs_set (i := 2) sc_law_no_places.nd rfl l_law_no_places_far (.inl rfl) (qe_op opAdd qe_int (qe_def D_law_draw hr (by decide) g_law_no_places__law_draw (qa_cons (qv 0 rfl v_law_no_places_hand) (qa_cons (qe_op opPow qe_int qe_int) qa_nil)))))
    (qb_cons (qs_set (i := 3) sc_law_no_places.nd rfl l_law_no_places_some (.inl rfl) (qe_lst (qa_cons (qv 1 rfl v_law_no_places_every) (qa_cons (qe_op opAdd (qv 1 rfl v_law_no_places_every) (qv 2 rfl v_law_no_places_far)) (qa_cons (qe_un unNeg qe_int) (qa_cons (qe_op opSub qe_int (qv 2 rfl v_law_no_places_far)) (qa_cons (qe_op opPow qe_int qe_int) (qa_cons qe_bl (qa_cons qe_bl (qa_cons qe_non (qa_cons qe_str (qa_cons qe_str (qa_cons (qe_lst (qa_cons qe_int qa_nil)) (qa_cons (qe_tup (qa_cons qe_int qa_nil)) (qa_cons qe_dict0 (qa_cons (qe_lst qa_nil) (qa_cons (qe_tup qa_nil) qa_nil)))))))))))))))))
    (qb_one (qs_ret (qe_op opAdd (qv 3 rfl v_law_no_places_some) (qe_lst (qa_cons (qe_cT callStr g_law_no_places_str B.str boot_str (qa_cons (qv 1 rfl v_law_no_places_every) qa_nil)) (qa_cons qe_dict1 qa_nil))))))))⟩
open M14 M18 in
theorem cnt40 {ns : List Int} {lo hi : Int} (k b : Nat) (h : ns.length ≤ 120) : 0 ≤ M14.cnt ns lo hi (k + 1) b ∧ M14.cnt ns lo hi (k + 1) b < 10 ^ 40 := by
  refine ⟨cnt_nn _ _, ?_⟩
  rw [← M15.comps_len k b]
  have h1 := M15.comps_le (ns := ns) (lo := lo) (hi := hi) k b
  have h2 : 2 ^ (ns.length - b) ≤ 2 ^ 120 := Nat.pow_le_pow_right (by decide) (by omega)
  have h3 : (2 : Nat) ^ 120 < 10 ^ 40 := by decide
  have h4 : (M15.comps ns lo hi k b).length < 10 ^ 40 := by omega
  exact_mod_cast h4
def sp_law_no_places : Sp := fun vs H Q _ => ∃ (h : Addr) (ev : Int), vs = [.ref h, .int ev] ∧ HandAt H h ∧ 0 ≤ ev ∧ ev < 10 ^ 40 ∧ ∀ p xs H', HandAt H' h → Kp [h] H H' → H p = none → H' p = some (.lst xs) → xs.length ≤ 30 → (∀ x ∈ xs, NoPl H' ev x) → Q (.ref p) H'
theorem ok_law_no_places (B : Bl mg) (D_law_draw : Def P w K mg base 1 "_law_draw" ["hand", "limit"] sp_law_draw) (F : Fun K "_law_no_places" "_law_no_places" s_law_no_places f fd) : FnOk P w K mg base CX0 2 f fd ["hand", "every"] sp_law_no_places := by
  refine F.okq sc_law_no_places (fun vs H Q E h => ?_) (fun cdv A outer s H vs Q E hr h => ?_)
  · obtain ⟨h, ev, rfl, _⟩ := h; rfl
  obtain ⟨h, ev, rfl, hh, ev0, ev1, q⟩ := h
  refine ⟨t_law_no_places B D_law_draw hr, ?_⟩
  refine ⟨⟨by decide, by decide, by decide⟩, ?_⟩
  refine ⟨h, _, rfl, hh, by decide, by decide, fun g H1 g0 g1 hh1 k1 => ?_⟩
  refine ⟨⟨by decide, by decide, by decide⟩, ?_⟩
  refine i_newL (by show 1 ≤ sizeLine; decide) fun p1 H2 hp1 s2 e2 => i_newT (by show 1 ≤ sizeLine; decide) fun p2 H3 hp2 s3 e3 => i_newE fun p3 H4 hp3 s4 e4 => i_newL (by show 0 ≤ sizeLine; decide) fun p4 H5 hp4 s5 e5 => i_newT (by show 0 ≤ sizeLine; decide) fun p5 H6 hp5 s6 e6 => ?_
  refine i_newL (by show 15 ≤ sizeLine; decide) fun p6 H7 hp6 s7 e7 => ?_
  have s17 : Same H1 H7 := s2.trans (s3.trans (s4.trans (s5.trans (s6.trans s7))))
  refine ⟨by omega, i_newE fun p8 H8 hp8 s8 e8 => i_newL (by show 2 ≤ sizeLine; decide) fun p9 H9 hp9 s9 e9 => ?_⟩
  refine i_cat (s9 _ _ (s8 _ _ e7)) e9 (by show 15 + 2 ≤ sizeLine; decide) fun pB HB hpB sB eB => ?_
  have s7B := s8.trans (s9.trans sB)
  have s1B := s17.trans s7B
  have s19 := s17.trans (s8.trans s9)
  have nh : pB ≠ h := fun z => by subst z; obtain ⟨_, _, q', _⟩ := id hh1; rw [s19.free hpB] at q'; cases q'
  refine q pB _ HB (hh1.same s1B) (k1.same s1B) (k1.free (by simp [nh]) (s19.free hpB)) eB (by show 15 + 2 ≤ 30; decide) ?_
  have w : ∀ {X : Hp} {x : V}, Same X HB → Odd X x → NoPl HB ev x := fun sx o => .inl (o.same sx)
  intro x hx
  simp only [List.cons_append, List.nil_append, List.mem_cons, List.not_mem_nil, or_false] at hx
  rcases hx with rfl | rfl | rfl | rfl | rfl | rfl | rfl | rfl | rfl | rfl | rfl | rfl | rfl | rfl | rfl | rfl | rfl
  · exact .inr ⟨_, rfl, by omega⟩
  · exact .inr ⟨_, rfl, by omega⟩
  · exact .inr ⟨_, rfl, by omega⟩
  · exact .inr ⟨_, rfl, by omega⟩
  · refine .inr ⟨_, rfl, fun z => ?_⟩
    have e1 : (10 : Int) ^ Int.toNat 40 = 10 ^ 40 := rfl
    omega
  · exact .inl (.bl _)
  · exact .inl (.bl _)
  · exact .inl .non
  · exact .inl (.str _)
  · exact .inl (.str _)
  · exact w (s3.trans (s4.trans (s5.trans (s6.trans (s7.trans s7B))))) (.lst e2)
  · exact w (s4.trans (s5.trans (s6.trans (s7.trans s7B)))) (.tup e3)
  · exact w (s5.trans (s6.trans (s7.trans s7B))) (.dct e4)
  · exact w (s6.trans (s7.trans s7B)) (.lst e5)
  · exact w (s7.trans s7B) (.tup e6)
  · exact .inl (.str _)
  · exact w (s9.trans sB) (.dct e8)

end
end K

set_option linter.all false
set_option Elab.async false
set_option maxRecDepth 100000
set_option maxHeartbeats 4000000
namespace K
open PySem L2
section
variable {C : Addr} {Z : Ecl} {P : Program} {w : World} {K : PySem.W.Frag} {mg : Str → Option Value} {base : Heap} {f : Addr} {fd : FuncData}

def RVx (S : List Addr) (n : Nat) (H : Hp) (x : V) (d : PyData) : Prop := ∀ H' : Hp, (∀ a o, a ∉ S → H a = some o → H' a = some o) → RV n H' x d
theorem RVx.kp {S T : List Addr} {n : Nat} {H H' : Hp} {x : V} {d : PyData} (k : Kp T H H') (hs : ∀ a ∈ T, a ∈ S) (h : RVx S n H x d) : RVx S n H' x d := fun H'' g => h H'' fun a o ha ho => g a o ha (k a o (fun z => ha (hs a z)) ho)
theorem RVx.same {S : List Addr} {n : Nat} {H H' : Hp} {x : V} {d : PyData} (s : Same H H') (h : RVx S n H x d) : RVx S n H' x d := h.kp (T := []) s.kp (by simp)
theorem RVx.now {S : List Addr} {n : Nat} {H : Hp} {x : V} {d : PyData} (h : RVx S n H x d) : RV n H x d := h H fun _ _ _ z => z
theorem rvx_list {S : List Addr} {n : Nat} {H : Hp} {a : Addr} {xs : List V} {ds : List PyData} (ha : a ∉ S) (e : H a = some (.lst xs)) (h : ∀ H', (∀ a o, a ∉ S → H a = some o → H' a = some o) → Paired (RV n H') xs ds) : RVx S (n + 1) H (.ref a) (.list ds) := fun H' g => .inl ⟨_, _, .inl (g a _ ha e), rfl, h H' g⟩
theorem not_in {S : List Addr} {H : Hp} (h : ∀ a ∈ S, ∃ o, H a = some o) {a : Addr} (ha : H a = none) : a ∉ S := fun z => by obtain ⟨o, ho⟩ := h a z; rw [ha] at ho; cases ho
theorem paired_snoc {α β : Type} {R : α → β → Prop} {xs : List α} {ys : List β} {x : α} {y : β} (h : Paired R xs ys) (hxy : R x y) : Paired R (xs ++ [x]) (ys ++ [y]) := by
  induction h with
  | nil => exact .cons hxy .nil
  | cons h _ ih => exact .cons h ih
def PairS (S : List Addr) (n : Nat) (H : Hp) (ys : List V) (ds : List PyData) : Prop := ∀ H' : Hp, (∀ a o, a ∉ S → H a = some o → H' a = some o) → Paired (RV n H') ys ds
theorem PairS.kp {S T : List Addr} {n : Nat} {H H' : Hp} {ys : List V} {ds : List PyData} (k : Kp T H H') (hs : ∀ a ∈ T, a ∈ S) (h : PairS S n H ys ds) : PairS S n H' ys ds := fun H'' g => h H'' fun a o ha ho => g a o ha (k a o (fun z => ha (hs a z)) ho)
theorem PairS.same {S : List Addr} {n : Nat} {H H' : Hp} {ys : List V} {ds : List PyData} (s : Same H H') (h : PairS S n H ys ds) : PairS S n H' ys ds := h.kp (T := []) s.kp (by simp)
theorem PairS.snoc {S : List Addr} {n : Nat} {H : Hp} {ys : List V} {ds : List PyData} {v : V} {d : PyData} (h : PairS S n H ys ds) (hv : RVx S n H v d) : PairS S n H (ys ++ [v]) (ds ++ [d]) := fun H' g => paired_snoc (h H' g) (hv H' g)
theorem PairS.list {S : List Addr} {n : Nat} {H : Hp} {ys : List V} {ds : List PyData} {a : Addr} (h : PairS (a :: S) n H ys ds) (ha : a ∉ S) (e : H a = some (.lst ys)) : RVx S (n + 1) H (.ref a) (.list ds) := rvx_list ha e fun H' g => h H' fun b o hb ho => g b o (fun z => hb (List.mem_cons_of_mem _ z)) ho
def Alive (S : List Addr) (H : Hp) : Prop := ∀ a ∈ S, ∃ o, H a = some o
theorem Alive.same {S : List Addr} {H H' : Hp} (s : Same H H') (h : Alive S H) : Alive S H' := fun a ha => let ⟨o, ho⟩ := h a ha; ⟨o, s _ _ ho⟩
theorem Alive.cons {S : List Addr} {H : Hp} {a : Addr} {o : HO} (h : Alive S H) (e : H a = some o) : Alive (a :: S) H := fun b hb => by
  rcases List.mem_cons.mp hb with rfl | hb
  · exact ⟨o, e⟩
  · exact h b hb

open M14 M18 in
theorem cnt_none {ns : List Int} : ∀ (k b : Nat), M14.cnt ns 1 0 (k + 1) b = 0 := by
  intro k b
  rw [← M15.comps_len k b]
  have no : ∀ b e, ¬ ok ns 1 0 b e = 1 := fun b e y => by have := (ok_one.mp y).2; omega
  have : M15.comps ns 1 0 k b = [] := by
    cases k with
    | zero => show (if _ then _ else _) = _; rw [if_neg (no _ _)]
    | succ k =>
      show (M15.ends ns 1 0 b ns.length).flatMap _ = []
      have : M15.ends ns 1 0 b ns.length = [] := List.filter_eq_nil_iff.mpr fun e _ => by simpa using no b e
      rw [this]; rfl
  rw [this]; rfl
def Told16 (ns : List Int) (lo hi : Int) (m : Nat) (n : Nat) (dd : PyData) : Prop := ∃ f : Nat → List Int, (∀ j, j < n → M18.At ns lo hi (m - 1) 0 j (f j)) ∧ dd = .list ((List.range n).map fun j => intsD (f j))
theorem Told16.uniq {ns : List Int} {lo hi : Int} {m n : Nat} {d d' : PyData} (h : Told16 ns lo hi m n d) (h' : Told16 ns lo hi m n d') : d = d' := by
  obtain ⟨f, h1, rfl⟩ := h
  obtain ⟨f', h1', rfl⟩ := h'
  congr 1
  refine List.map_congr_left fun j hj => ?_
  rw [M15.at_uniq (h1 j (List.mem_range.mp hj)) (h1' j (List.mem_range.mp hj))]
theorem told_ok {Z : Ecl} {K : PySem.W.Frag} {a r tw : Addr} {x1 x2 x3 x4 x9 x10 x11 : Option V} {H : Hp} {Q : VK} {ns : List Int} {m : Nat} {lo hi : Int} (er : H r = some (.lst (ns.map V.int))) (rn : RowN ns) (m1 : 1 ≤ m) (m2 : m ≤ ns.length) (et : H tw = some (.lst [.int lo, .int hi]))
    (q : ∀ p dd H', H p = none → Same H H' → Told16 ns lo hi m (min (M14.cnt ns lo hi m 0) 2).toNat dd → (∀ S, Alive S H → RVx S 3 H' (.ref p) dd) → Q (.ref p) H') :
    tComp [none, some 5, some 7, some 6] (mRng1 (tCons (tCB (vMin K) (tCons (mVar 8) (tCons (tC (V.int 2)) tNil))) tNil)) (upG (gName 0)) (upT tYes)
      (upE (tCall (spP (sp_cut_at Z)) [] E0 (tCons (mVar 1) (tCons (mVar 2) (tCons (tOp (vIx K) (mVar 3) (tC (V.int 0))) (tCons (tOp (vIx K) (mVar 3) (tC (V.int 1))) (tCons (mVar 0) tNil)))))))
      [some (.ref a), x1, x2, x3, x4, some (.ref r), some (.ref tw), some (.int m), some (.int (M14.cnt ns lo hi m 0)), x9, x10, x11] H Q := by
  have hle := rn.le
  have hb := cnt40 (ns := ns) (lo := lo) (hi := hi) (m - 1) 0 hle
  rw [show m - 1 + 1 = m by omega] at hb
  generalize hc : M14.cnt ns lo hi m 0 = ev at hb q
  refine ⟨⟨by omega, by omega⟩, comp_rng (fun i D σ H' ys => Same H H' ∧ (∃ o, σ = [o, some (.ref r), some (.int m), some (.ref tw)]) ∧ ys.length = i ∧ ∃ ds : List PyData, ds.length = i ∧ (∀ S, Alive S H → PairS (D :: S) 2 H' ys ds) ∧
    ∀ j, j < i → ∃ c, ds[j]? = some (intsD c) ∧ M18.At ns lo hi (m - 1) 0 j c) ?_ ?_ ?_⟩
  · intro D H' hD s' e'
    exact ⟨s', ⟨_, rfl⟩, rfl, [], rfl, fun S _ => fun H'' g => .nil, fun w hw => by omega⟩
  · rintro i D σ H1 ys hii hD ⟨s1, ⟨o, rfl⟩, hyl, ds, hdl, hp, hds⟩ eD
    have hi2 : (i : Int) < min ev 2 := by omega
    have ew : (0 + (i : Int)) = (i : Int) := by omega
    refine bT (i_ixN (v := .int lo) 0 (s1 _ _ et) rfl rfl (i_ixN (v := .int hi) 1 (s1 _ _ et) rfl rfl ?_))
    refine .inl ⟨r, ns, m, lo, hi, i, (by show [V.ref r, V.int m, V.int lo, V.int hi, V.int (0 + (i : Int))] = _; rw [ew]), s1 _ _ er, by omega, rn.nn, m1, m2, by omega, by rw [hc]; omega, fun p c H2 hc2 hp2 s2 e2 => ?_⟩
    refine ⟨s2 _ _ eD, sz_lt (by omega), fun H3 k3 e3 => ⟨(s1.trans s2).new k3 hD, ⟨_, rfl⟩, by simp [hyl], ds ++ [intsD c], by simp [hdl], fun S hS => ?_, fun j hj => ?_⟩⟩
    · have h1 := ((hp S hS).same s2).kp k3 (by simp)
      have al : Alive (D :: S) H1 := (hS.same s1).cons eD
      have h2 : RVx (D :: S) 2 H2 (.ref p) (intsD c) := rvx_list (not_in al hp2) e2 fun H' g => paired_ints 1 c
      exact h1.snoc (h2.kp k3 (by simp))
    · by_cases c1 : j < i
      · obtain ⟨c', g1, g2⟩ := hds j c1
        exact ⟨c', by rw [List.getElem?_append_left (by omega)]; exact g1, g2⟩
      · have : j = i := by omega
        subst this
        exact ⟨c, by rw [List.getElem?_append_right (by omega), hdl, Nat.sub_self]; rfl, hc2⟩
  · rintro D σ H1 ys hD ⟨s1, _, hyl, ds, hdl, hp, hds⟩ eD
    have en : (min ev 2 - 0).toNat = (min ev 2).toNat := by rw [Int.sub_zero]
    refine q D (.list ds) H1 hD s1 ⟨fun j => if h : j < (min ev 2).toNat then Classical.choose (hds j (by omega)) else [], fun j hj => ?_, ?_⟩ fun S hS => (hp S hS).list (not_in hS hD) eD
    · show M18.At ns lo hi (m - 1) 0 (j : Int) (if h : j < (min ev 2).toNat then _ else _)
      rw [dif_pos hj]; exact (Classical.choose_spec (hds j (by omega))).2
    · congr 1
      apply List.ext_getElem?
      intro j
      by_cases hj : j < (min ev 2).toNat
      · rw [List.getElem?_map, List.getElem?_range hj]
        have := (Classical.choose_spec (hds j (by omega))).1
        simp only [Option.map_some, dif_pos hj]; exact this
      · rw [List.getElem?_eq_none (by omega), List.getElem?_eq_none (by simp; omega)]

end
end K

set_option linter.all false
set_option Elab.async false
set_option maxRecDepth 100000
set_option maxHeartbeats 4000000
namespace K
open PySem L2
section
variable {C : Addr} {Z : Ecl} {P : Program} {w : World} {K : PySem.W.Frag} {mg : Str → Option Value} {base : Heap} {f : Addr} {fd : FuncData}

abbrev s_law : Stmt := top 28
theorem sc_law : FnScope ["script", "deep", "k", "cell", "hand", "row", "two", "many", "every", "told", "thing", "place"] ["script"] (defScope s_law) := ⟨rfl, rfl, rfl, by decide +kernel, rfl, by decide +kernel, by decide +kernel⟩
theorem l_law_cell : Loc (defScope s_law) "cell" := Or.inl (by kernel_rfl)
theorem l_law_deep : Loc (defScope s_law) "deep" := Or.inl (by kernel_rfl)
theorem l_law_every : Loc (defScope s_law) "every" := Or.inl (by kernel_rfl)
theorem l_law_hand : Loc (defScope s_law) "hand" := Or.inl (by kernel_rfl)
theorem l_law_k : Loc (defScope s_law) "k" := Or.inl (by kernel_rfl)
theorem l_law_many : Loc (defScope s_law) "many" := Or.inr (by kernel_rfl)
theorem l_law_place : Loc (defScope s_law) "place" := Or.inl (by kernel_rfl)
theorem l_law_row : Loc (defScope s_law) "row" := Or.inr (by kernel_rfl)
theorem l_law_thing : Loc (defScope s_law) "thing" := Or.inl (by kernel_rfl)
theorem l_law_told : Loc (defScope s_law) "told" := Or.inl (by kernel_rfl)
theorem l_law_two : Loc (defScope s_law) "two" := Or.inr (by kernel_rfl)
theorem v_law_cell : Vis (defScope s_law) "cell" := Or.inl (by kernel_rfl)
theorem v_law_deep : Vis (defScope s_law) "deep" := Or.inl (by kernel_rfl)
theorem v_law_every : Vis (defScope s_law) "every" := Or.inl (by kernel_rfl)
theorem v_law_hand : Vis (defScope s_law) "hand" := Or.inl (by kernel_rfl)
theorem v_law_k : Vis (defScope s_law) "k" := Or.inl (by kernel_rfl)
theorem v_law_many : Vis (defScope s_law) "many" := Or.inr (Or.inl (by kernel_rfl))
theorem v_law_place : Vis (defScope s_law) "place" := Or.inl (by kernel_rfl)
theorem v_law_row : Vis (defScope s_law) "row" := Or.inr (Or.inl (by kernel_rfl))
theorem v_law_script : Vis (defScope s_law) "script" := Or.inl (by kernel_rfl)
theorem v_law_thing : Vis (defScope s_law) "thing" := Or.inl (by kernel_rfl)
theorem v_law_told : Vis (defScope s_law) "told" := Or.inl (by kernel_rfl)
theorem v_law_two : Vis (defScope s_law) "two" := Or.inr (Or.inl (by kernel_rfl))
theorem g_law_ValueError : (defScope s_law).names.lookup ("ValueError" : Str) = some NameKind.globalImplicit := by kernel_rfl
theorem g_law__law_cells : (defScope s_law).names.lookup ("_law_cells" : Str) = some NameKind.globalImplicit := by kernel_rfl
theorem g_law__law_draw : (defScope s_law).names.lookup ("_law_draw" : Str) = some NameKind.globalImplicit := by kernel_rfl
theorem g_law__law_great : (defScope s_law).names.lookup ("_law_great" : Str) = some NameKind.globalImplicit := by kernel_rfl
theorem g_law__law_hand : (defScope s_law).names.lookup ("_law_hand" : Str) = some NameKind.globalImplicit := by kernel_rfl
theorem g_law__law_no_many : (defScope s_law).names.lookup ("_law_no_many" : Str) = some NameKind.globalImplicit := by kernel_rfl
theorem g_law__law_no_places : (defScope s_law).names.lookup ("_law_no_places" : Str) = some NameKind.globalImplicit := by kernel_rfl
theorem g_law__law_refused : (defScope s_law).names.lookup ("_law_refused" : Str) = some NameKind.globalImplicit := by kernel_rfl
theorem g_law__law_row : (defScope s_law).names.lookup ("_law_row" : Str) = some NameKind.globalImplicit := by kernel_rfl
theorem g_law__law_two_bounds : (defScope s_law).names.lookup ("_law_two_bounds" : Str) = some NameKind.globalImplicit := by kernel_rfl
theorem g_law_cuts_between : (defScope s_law).names.lookup ("cuts_between" : Str) = some NameKind.globalImplicit := by kernel_rfl
theorem g_law_int : (defScope s_law).names.lookup ("int" : Str) = some NameKind.globalImplicit := by kernel_rfl
theorem g_law_len : (defScope s_law).names.lookup ("len" : Str) = some NameKind.globalImplicit := by kernel_rfl
theorem g_law_min : (defScope s_law).names.lookup ("min" : Str) = some NameKind.globalImplicit := by kernel_rfl
theorem g_law_range : (defScope s_law).names.lookup ("range" : Str) = some NameKind.globalImplicit := by kernel_rfl
theorem g_law_sum : (defScope s_law).names.lookup ("sum" : Str) = some NameKind.globalImplicit := by kernel_rfl
def t_law {cdv : Value} {A : Around} {outer : List Env} {s : Shared} {H : Hp} {E : XK} (B : Bl mg) (Y : ErrT K mg Z) (D_law_cells : Def P w K mg base 1 "_law_cells" ["script", "many"] (sp_law_cells K)) (D_law_hand : Def P w K mg base 1 "_law_hand" ["cell", "k"] sp_law_hand) (D_law_row : Def P w K mg base 2 "_law_row" ["hand", "long"] sp_law_row) (D_law_great : Def P w K mg base 1 "_law_great" ["script"] (sp_law_great K)) (D_law_two_bounds : Def P w K mg base 2 "_law_two_bounds" ["hand", "row"] sp_law_two_bounds) (D_law_draw : Def P w K mg base 1 "_law_draw" ["hand", "limit"] sp_law_draw) (D_cuts_between : DefX P w K mg base 4 "cuts_between" ["row", "many", "low", "high"] (sp_cuts_between Z)) (D_cut_at : DefX P w K mg base 4 "cut_at" ["row", "many", "low", "high", "place"] (sp_cut_at Z)) (D_law_no_many : Def P w K mg base 2 "_law_no_many" ["hand", "row"] sp_law_no_many) (D_law_refused : Def P w K mg base 5 "_law_refused" ["row", "many", "two", "place", "at"] sp_law_refused) (D_law_no_places : Def P w K mg base 2 "_law_no_places" ["hand", "every"] sp_law_no_places) (hr : Room 5 (A.deeper (PyProof.Rows.envOfC "law" (defScope s_law) s.heap.objs.size f cdv))) :
    { t : TS // QB (cxOf CX0 P w K mg base ["script", "deep", "k", "cell", "hand", "row", "two", "many", "every", "told", "thing", "place"] "law" (defScope s_law) f cdv A outer s H E).nox (defBody s_law) t } :=
  ⟨_, (qb_cons (qs_set (i := 1) sc_law.nd rfl l_law_deep (.inl rfl) (qe_lst (qa_cons (qe_lst qa_nil) (qa_cons (qe_tup qa_nil) qa_nil))))
    (qb_mid (qs_for PassesOwn.never rfl (qi_r1 g_law_range B.range (qa_cons qe_int qa_nil)) (qg_name (i := 2) sc_law.nd rfl l_law_k (.inl rfl)) (qb_one (qs_set (i := 1) sc_law.nd rfl l_law_deep (.inl rfl) (qe_lst (qa_cons (qe_lst (qa_cons (ke_ix (K := K) rfl (qv 1 rfl v_law_deep) qe_int (fun _ _ => rfl)) qa_nil)) (qa_cons (qe_tup (qa_cons (ke_ix (K := K) rfl (qv 1 rfl v_law_deep) qe_int (fun _ _ => rfl)) qa_nil)) qa_nil))))))
    (qb_mid (qs_for PassesOwn.never rfl (ki_list (K := K) rfl (qe_def D_law_cells hr (by decide) g_law__law_cells (qa_cons (qv 0 rfl v_law_script) (qa_cons qe_int qa_nil)))) (kg_tup (K := K) rfl rfl (qgs_cons (qg_name (i := 2) sc_law.nd rfl l_law_k (.inl rfl)) (qgs_cons (qg_name (i := 3) sc_law.nd rfl l_law_cell (.inl rfl)) qgs_nil))) (qb_cons (qs_set (i := 4) sc_law.nd rfl l_law_hand (.inl rfl) (qe_def D_law_hand hr (by decide) g_law__law_hand (qa_cons (qv 3 rfl v_law_cell) (qa_cons (qv 2 rfl v_law_k) qa_nil))))
    (qb_mid (qs_set (i := 5) sc_law.nd rfl l_law_row (.inl rfl) (qe_def D_law_row hr (by decide) g_law__law_row (qa_cons (qv 4 rfl v_law_hand) (qa_cons (ke_and (K := K) rfl (qe_cmp (kEqG (K := K) rfl hr) (qv 2 rfl v_law_k) qe_int) (qe_one (qe_def D_law_great hr (by decide) g_law__law_great (qa_cons (qv 0 rfl v_law_script) qa_nil)))) qa_nil))))
    (qb_cons (qs_set (i := 6) sc_law.nd rfl l_law_two (.inl rfl) (ke_ix (K := K) rfl (qe_lst (qa_cons (qe_def D_law_two_bounds hr (by decide) g_law__law_two_bounds (qa_cons (qv 4 rfl v_law_hand) (qa_cons (qv 5 rfl v_law_row) qa_nil))) (qa_cons (qe_lst (qa_cons qe_int (qa_cons (qe_cB (kSum (K := K) rfl rfl) g_law_sum B.sum boot_sum' (qa_cons (qv 5 rfl v_law_row) qa_nil)) qa_nil))) qa_nil))) (qe_def D_law_draw hr (by decide) g_law__law_draw (qa_cons (qv 4 rfl v_law_hand) (qa_cons qe_int qa_nil))) (fun _ _ => rfl)))
    (qb_cons (qs_set (i := 7) sc_law.nd rfl l_law_many (.inl rfl) (qe_op opAdd qe_int (qe_def D_law_draw hr (by decide) g_law__law_draw (qa_cons (qv 4 rfl v_law_hand) (qa_cons (ke_ix (K := K) rfl (qe_lst (qa_cons qe_int (qa_cons (qe_cB (kLen (K := K) rfl) g_law_len B.len boot_len' (qa_cons (qv 5 rfl v_law_row) qa_nil)) qa_nil))) (qe_cT callInt g_law_int B.int boot_int (qa_cons (qe_cmp opLt (qe_cB (kLen (K := K) rfl) g_law_len B.len boot_len' (qa_cons (qv 5 rfl v_law_row) qa_nil)) qe_int) qa_nil)) (fun _ _ => rfl)) qa_nil)))))
    (qb_cons (qs_set (i := 8) sc_law.nd rfl l_law_every (.inl rfl) (qe_def D_cuts_between.plain hr (by decide) g_law_cuts_between (qa_cons (qv 5 rfl v_law_row) (qa_cons (qv 7 rfl v_law_many) (qa_cons (ke_ix (K := K) rfl (qv 6 rfl v_law_two) qe_int (fun _ _ => rfl)) (qa_cons (ke_ix (K := K) rfl (qv 6 rfl v_law_two) qe_int (fun _ _ => rfl)) qa_nil))))))
    (qb_cons (qs_cp ["place", "row", "many", "two"] [none, some 5, some 7, some 6] (i := 9) rfl sc_law.nd rfl l_law_told (.inl rfl) (qi_r1 g_law_range B.range (qa_cons (qe_cB (kMin (K := K) rfl rfl) g_law_min B.min boot_min' (qa_cons (qv 8 rfl v_law_every) (qa_cons qe_int qa_nil))) qa_nil)) (fun _ _ _ _ _ _ => (qg_name (i := 0) (show (["place", "row", "many", "two"] : List Str).Nodup by decide +kernel) rfl (by first | exact Or.inl rfl | exact Or.inr rfl) (by first | exact .inl rfl | exact .inr rfl))) (fun _ _ _ _ _ _ => qif_nil) (fun _ _ _ _ _ _ => (qe_def D_cut_at.plain hr (by decide) rfl (qa_cons (qv 1 rfl (by first | exact Or.inl rfl | exact Or.inr (Or.inl rfl) | exact Or.inr (Or.inr rfl))) (qa_cons (qv 2 rfl (by first | exact Or.inl rfl | exact Or.inr (Or.inl rfl) | exact Or.inr (Or.inr rfl))) (qa_cons (ke_ix (K := K) rfl (qv 3 rfl (by first | exact Or.inl rfl | exact Or.inr (Or.inl rfl) | exact Or.inr (Or.inr rfl))) qe_int (fun _ _ => rfl)) (qa_cons (ke_ix (K := K) rfl (qv 3 rfl (by first | exact Or.inl rfl | exact Or.inr (Or.inl rfl) | exact Or.inr (Or.inr rfl))) qe_int (fun _ _ => rfl)) (qa_cons (qv 0 rfl (by first | exact Or.inl rfl | exact Or.inr (Or.inl rfl) | exact Or.inr (Or.inr rfl))) qa_nil))))))))
    (qb_mid (qs_for PassesOwn.never rfl (ki_list (K := K) rfl (qe_op opAdd (qe_op opAdd (qe_def D_law_no_many hr (by decide) g_law__law_no_many (qa_cons (qv 4 rfl v_law_hand) (qa_cons (qv 5 rfl v_law_row) qa_nil))) (qv 1 rfl v_law_deep)) (qe_lst (qa_cons (qe_cT callVE g_law_ValueError Y.b_ValueError boot_ValueError (qa_cons qe_str qa_nil)) qa_nil)))) (qg_name (i := 10) sc_law.nd rfl l_law_thing (.inl rfl)) (qb_one (qs_for PassesOwn.never rfl (ki_list (K := K) rfl (qe_lst (qa_cons qe_non (qa_cons (qe_lst (qa_cons qe_int qa_nil)) (qa_cons (qe_lst (qa_cons (qe_un unNeg qe_int) qa_nil)) (qa_cons (qe_lst (qa_cons qe_str qa_nil)) (qa_cons (qe_lst (qa_cons (qv 8 rfl v_law_every) qa_nil)) (qa_cons (qv 1 rfl v_law_deep) qa_nil)))))))) (qg_name (i := 11) sc_law.nd rfl l_law_place (.inl rfl)) (qb_one (qs_if (qt_not (kt_val (K := K) rfl (qe_def D_law_refused hr (by decide) g_law__law_refused (qa_cons (qv 5 rfl v_law_row) (qa_cons (qv 10 rfl v_law_thing) (qa_cons (qv 6 rfl v_law_two) (qa_cons (qv 11 rfl v_law_place) (qa_cons qe_int qa_nil)))))))) (qb_one (qs_ret qe_bl)) qb_nil)))))
    (qb_mid (qs_for PassesOwn.never rfl (ki_list (K := K) rfl (qe_op opAdd (qe_op opAdd (qe_def D_law_no_places hr (by decide) g_law__law_no_places (qa_cons (qv 4 rfl v_law_hand) (qa_cons (qv 8 rfl v_law_every) qa_nil))) (qv 1 rfl v_law_deep)) (qe_lst (qa_cons (qe_cT callVE g_law_ValueError Y.b_ValueError boot_ValueError (qa_cons qe_str qa_nil)) qa_nil)))) (qg_name (i := 10) sc_law.nd rfl l_law_thing (.inl rfl)) (qb_one (qs_if (QW.pt (qw_or (qt_not (kt_val (K := K) rfl (qe_def D_law_refused hr (by decide) g_law__law_refused (qa_cons (qv 5 rfl v_law_row) (qa_cons (qv 7 rfl v_law_many) (qa_cons (qv 6 rfl v_law_two) (qa_cons (qe_lst (qa_cons (qv 10 rfl v_law_thing) qa_nil)) (qa_cons qe_int qa_nil)))))))) (qw_or1 (qt_not (kt_val (K := K) rfl (qe_def D_law_refused hr (by decide) g_law__law_refused (qa_cons (qv 5 rfl v_law_row) (qa_cons (qv 7 rfl v_law_many) (qa_cons (qv 6 rfl v_law_two) (qa_cons (qe_lst (qa_cons (qv 10 rfl v_law_thing) qa_nil)) (qa_cons qe_int qa_nil))))))))))) (qb_one (qs_ret qe_bl)) qb_nil)))
    (qb_cons (qs_if (qt_cmp (kNeG (K := K) rfl hr) (qe_cp ["place", "row", "many", "two"] [none, some 5, some 7, some 6] rfl (qi_r1 g_law_range B.range (qa_cons (qe_cB (kMin (K := K) rfl rfl) g_law_min B.min boot_min' (qa_cons (qv 8 rfl v_law_every) (qa_cons qe_int qa_nil))) qa_nil)) (fun _ _ _ _ _ _ => (qg_name (i := 0) (show (["place", "row", "many", "two"] : List Str).Nodup by decide +kernel) rfl (by first | exact Or.inl rfl | exact Or.inr rfl) (by first | exact .inl rfl | exact .inr rfl))) (fun _ _ _ _ _ _ => qif_nil) (fun _ _ _ _ _ _ => (qe_def D_cut_at.plain hr (by decide) rfl (qa_cons (qv 1 rfl (by first | exact Or.inl rfl | exact Or.inr (Or.inl rfl) | exact Or.inr (Or.inr rfl))) (qa_cons (qv 2 rfl (by first | exact Or.inl rfl | exact Or.inr (Or.inl rfl) | exact Or.inr (Or.inr rfl))) (qa_cons (ke_ix (K := K) rfl (qv 3 rfl (by first | exact Or.inl rfl | exact Or.inr (Or.inl rfl) | exact Or.inr (Or.inr rfl))) qe_int (fun _ _ => rfl)) (qa_cons (ke_ix (K := K) rfl (qv 3 rfl (by first | exact Or.inl rfl | exact Or.inr (Or.inl rfl) | exact Or.inr (Or.inr rfl))) qe_int (fun _ _ => rfl)) (qa_cons (qv 0 rfl (by first | exact Or.inl rfl | exact Or.inr (Or.inl rfl) | exact Or.inr (Or.inr rfl))) qa_nil)))))))) (qv 9 rfl v_law_told)) (qb_one (qs_ret qe_bl)) qb_nil)
    (qb_one (qs_if (QW.pt (qw_or (qt_not (kt_val (K := K) rfl (qe_def D_law_refused hr (by decide) g_law__law_refused (qa_cons (qv 5 rfl v_law_row) (qa_cons (qv 7 rfl v_law_many) (qa_cons (qe_lst (qa_cons qe_int (qa_cons qe_int qa_nil))) (qa_cons (qe_lst (qa_cons qe_int qa_nil)) (qa_cons qe_int qa_nil)))))))) (qw_or1 (qt_cmp (kNeG (K := K) rfl hr) (qe_def D_cuts_between.plain hr (by decide) g_law_cuts_between (qa_cons (qv 5 rfl v_law_row) (qa_cons (qv 7 rfl v_law_many) (qa_cons (ke_ix (K := K) rfl (qv 6 rfl v_law_two) qe_int (fun _ _ => rfl)) (qa_cons (ke_ix (K := K) rfl (qv 6 rfl v_law_two) qe_int (fun _ _ => rfl)) qa_nil))))) (qv 8 rfl v_law_every))))) (qb_one (qs_ret qe_bl)) qb_nil))))))))))))
    (qb_one (qs_ret qe_bl)))))⟩
def sp_law (K : PySem.W.Frag) : Sp := fun vs H Q _ => ∃ (a : Addr) (ns : List Int), vs = [.ref a] ∧ SqL K H a (ns.map V.int) ∧ ns.length ≤ 63 ∧ ∀ H', Q (.bl true) H'
/-- the two deep things -/
def DeepAt (H : Hp) (dp : Addr) : Prop := ∃ x y : Addr, H dp = some (.lst [.ref x, .ref y]) ∧ (∃ xs, H x = some (.lst xs)) ∧ ∃ ys, H y = some (.tup ys)
theorem DeepAt.same {H H' : Hp} {dp : Addr} (s : Same H H') (h : DeepAt H dp) : DeepAt H' dp := let ⟨x, y, a, ⟨xs, b⟩, ys, c⟩ := h; ⟨x, y, s _ _ a, ⟨xs, s _ _ b⟩, ys, s _ _ c⟩
theorem ok_law (B : Bl mg) (Y : ErrT K mg Z) (D_law_cells : Def P w K mg base 1 "_law_cells" ["script", "many"] (sp_law_cells K)) (D_law_hand : Def P w K mg base 1 "_law_hand" ["cell", "k"] sp_law_hand) (D_law_row : Def P w K mg base 2 "_law_row" ["hand", "long"] sp_law_row) (D_law_great : Def P w K mg base 1 "_law_great" ["script"] (sp_law_great K)) (D_law_two_bounds : Def P w K mg base 2 "_law_two_bounds" ["hand", "row"] sp_law_two_bounds) (D_law_draw : Def P w K mg base 1 "_law_draw" ["hand", "limit"] sp_law_draw) (D_cuts_between : DefX P w K mg base 4 "cuts_between" ["row", "many", "low", "high"] (sp_cuts_between Z)) (D_cut_at : DefX P w K mg base 4 "cut_at" ["row", "many", "low", "high", "place"] (sp_cut_at Z)) (D_law_no_many : Def P w K mg base 2 "_law_no_many" ["hand", "row"] sp_law_no_many) (D_law_refused : Def P w K mg base 5 "_law_refused" ["row", "many", "two", "place", "at"] sp_law_refused) (D_law_no_places : Def P w K mg base 2 "_law_no_places" ["hand", "every"] sp_law_no_places) (F : Fun K "law" "law" s_law f fd) : FnOk P w K mg base CX0 6 f fd ["script"] (sp_law K) := by
  refine F.okq sc_law (fun vs H Q E h => ?_) (fun cdv A outer s H vs Q E hr h => ?_)
  · obtain ⟨a, ns, rfl, _⟩ := h; rfl
  obtain ⟨a, sc, rfl, hS, h63, q⟩ := h
  refine ⟨t_law B Y D_law_cells D_law_hand D_law_row D_law_great D_law_two_bounds D_law_draw D_cuts_between D_cut_at D_law_no_many D_law_refused D_law_no_places hr, ?_⟩
  refine i_newL (by show 0 ≤ sizeLine; decide) fun p1 H1 hp1 s1 e1 => i_newT (by show 0 ≤ sizeLine; decide) fun p2 H2 hp2 s2 e2 => i_newL (by show 2 ≤ sizeLine; decide) fun p3 H3 hp3 s3 e3 => ?_
  refine ⟨fun σ H' => ∃ dp, Same H H' ∧ DeepAt H' dp ∧ ∃ o2 o3 o4 o5 o6 o7 o8 o9 o10 o11, σ = [some (.ref a), some (.ref dp), o2, o3, o4, o5, o6, o7, o8, o9, o10, o11], ?_, ?_⟩
  · refine ⟨⟨by decide, by decide⟩, for_range (fun i σ H' => ∃ dp, Same H H' ∧ DeepAt H' dp ∧ ∃ o2 o3 o4 o5 o6 o7 o8 o9 o10 o11, σ = [some (.ref a), some (.ref dp), o2, o3, o4, o5, o6, o7, o8, o9, o10, o11]) ?_ ?_ ?_⟩
    · exact ⟨p3, s1.trans (s2.trans s3), ⟨p1, p2, e3, ⟨_, s3 _ _ (s2 _ _ e1)⟩, _, s3 _ _ e2⟩, _, _, _, _, _, _, _, _, _, _, rfl⟩
    · rintro i σ H4 hi ⟨dp, s4, ⟨x, y, ed, ⟨xs, ex⟩, ys, ey⟩, o2, o3, o4, o5, o6, o7, o8, o9, o10, o11, rfl⟩
      refine i_ixN (v := .ref x) 0 ed rfl rfl (i_newL (by show 1 ≤ sizeLine; decide) fun p5 H5 hp5 s5 e5 => i_ixN (v := .ref y) 1 (s5 _ _ ed) rfl rfl (i_newT (by show 1 ≤ sizeLine; decide) fun p6 H6 hp6 s6 e6 => i_newL (by show 2 ≤ sizeLine; decide) fun p7 H7 hp7 s7 e7 => ?_))
      exact ⟨p7, s4.trans (s5.trans (s6.trans s7)), ⟨p5, p6, e7, ⟨_, s7 _ _ (s6 _ _ e5)⟩, _, s7 _ _ e6⟩, _, _, _, _, _, _, _, _, _, _, rfl⟩
    · rintro σ H' ⟨dp, h1, h2, h3⟩
      exact ⟨dp, h1, h2, h3⟩
  rintro σ Hd ⟨dp, sd, hdp, o2, o3, o4, o5, o6, o7, o8, o9, o10, o11, rfl⟩
  refine ⟨fun σ H' => True, ?_, fun σ H' _ => q H'⟩
  refine ⟨a, sc, 24, rfl, sd.seq hS, h63, fun D as H0 s0 hDn hD hlen hpair => ?_⟩
  have hdp0 := hdp.same s0
  refine ⟨⟨_, SqL.of hD⟩, for_list (xs := as.map V.ref) (fun i σ H' => (∃ o2 o3 o4 o5 o6 o7 o8 o9 o10 o11, σ = [some (.ref a), some (.ref dp), o2, o3, o4, o5, o6, o7, o8, o9, o10, o11]) ∧ Same H0 H') ?_ ?_ ?_ ?_⟩
  · exact ⟨⟨_, _, _, _, _, _, _, _, _, _, rfl⟩, Same.refl H0⟩
  · rintro i σ H' _ ⟨_, s'⟩
    exact SqL.of (s' _ _ hD)
  · rintro i x σ H1 hx ⟨⟨o2, o3, o4, o5, o6, o7, o8, o9, o10, o11, rfl⟩, s1⟩
    rw [List.getElem?_map] at hx
    obtain ⟨b, hb, rfl⟩ : ∃ b, as[i]? = some b ∧ V.ref b = x := by
      cases e : as[i]? with
      | none => rw [e] at hx; cases hx
      | some b => rw [e] at hx; exact ⟨b, rfl, Option.some.inj hx⟩
    obtain ⟨c, hc⟩ := hpair i b hb
    have hi : i < as.length := (List.getElem?_eq_some_iff.mp hb).1
    have hdp1 := hdp0.same s1
    refine i_unp (s1 _ _ hc) rfl ?_
    refine ⟨c, i, rfl, by omega, by omega, fun h H2 hh0 s2 hh2 => ?_⟩
    refine ⟨fun σ H' => ∃ r ns, RowN ns ∧ HandAt H' h ∧ Same H1 H' ∧ H' r = some (.lst (ns.map V.int)) ∧ r ≠ h ∧ σ = [some (.ref a), some (.ref dp), some (.int i), some (.int c), some (.ref h), some (.ref r), o6, o7, o8, o9, o10, o11], ?_, ?_⟩
    · have row : ∀ l : Bool, sp_law_row [.ref h, .bl l] H2 (fun v H' => ∃ r ns, RowN ns ∧ HandAt H' h ∧ Same H1 H' ∧ H' r = some (.lst (ns.map V.int)) ∧ r ≠ h ∧ [some (.ref a), some (.ref dp), some (.int i), some (.int c), some (.ref h), some v, o6, o7, o8, o9, o10, o11] = [some (.ref a), some (.ref dp), some (.int i), some (.int c), some (.ref h), some (.ref r), o6, o7, o8, o9, o10, o11]) E0 := fun l =>
        ⟨h, l, rfl, hh2, fun r ns H3 rn _ hh3 k3 e3 nr hr0 => ⟨r, ns, rn, hh3, s2.new k3 hh0, e3, nr, rfl⟩⟩
      exact dec2 (fun _ => ⟨a, sc, rfl, s2.seq (s1.seq (s0.seq (sd.seq hS))), fun bb => row bb⟩) (fun _ => row _)
    · rintro σ H3 ⟨r, ns, rn, hh3, s3, e3, nr, rfl⟩
      have hle := rn.le
      have hge := rn.ne
      have hdp3 := hdp1.same s3
      have hh : ∀ {X : Hp}, HandAt X h → ∃ o, X h = some o := fun ⟨d, m, e, _⟩ => ⟨_, e⟩
      -- the bounds
      have hh5 := hh3
      refine ⟨h, r, ns, rfl, hh3, e3, rn, nr, fun pw lo0 hi0 H4 hh4 k4 hpw npw epw => ?_⟩
      have e4 := k4.one nr e3
      refine i_sum (SqL.of e4) (i_newL (by show 2 ≤ sizeLine; decide) fun p5 H5 hp5 s5 e5 => i_newL (by show 2 ≤ sizeLine; decide) fun p6 H6 hp6 s6 e6 => ?_)
      have s46 := s5.trans s6
      refine ⟨h, 2, rfl, hh4.same s46, by decide, by decide, fun g H7 g0 g1 hh7 k7 => ?_⟩
      have alh : ∀ {X : Hp} {b : Addr}, HandAt X h → X b = none → b ≠ h := fun ⟨_, _, e, _⟩ hb z => by subst z; rw [hb] at e; cases e
      have n5 : p5 ≠ h := alh hh4 hp5
      have n6 : p6 ≠ h := alh (hh4.same s5) hp6
      have pick : ∃ (tw : Addr) (lo hi : Int), atI [V.ref pw, V.ref p5] g = some (.ref tw) ∧ H7 tw = some (.lst [.int lo, .int hi]) ∧ tw ≠ h := by
        have hg : g = 0 ∨ g = 1 := by omega
        rcases hg with rfl | rfl
        · exact ⟨pw, lo0, hi0, rfl, k7.one npw (s46 _ _ epw), npw⟩
        · exact ⟨p5, 0, ns.sum, rfl, k7.one n5 (s6 _ _ e5), n5⟩
      obtain ⟨tw, lo, hi, etw, e7t, ntw⟩ := pick
      refine i_ix (.inl (SqL.of (k7.one n6 e6))) etw ?_
      have e7 := k7.one nr (s46 _ _ e4)
      refine i_lenI e7 (i_newL (by show 2 ≤ sizeLine; decide) fun p8 H8 hp8 s8 e8 => i_lenI (s8 _ _ e7) ?_)
      have pickm : ∃ z : Int, atI [V.int 5, V.int (ns.length : Int)] (if decide ((ns.length : Int) < 13) = true then 1 else 0) = some (.int z) ∧ 1 ≤ z ∧ z ≤ ns.length := by
        by_cases y : (ns.length : Int) < 13
        · exact ⟨ns.length, by rw [decide_eq_true y]; rfl, by omega, by omega⟩
        · exact ⟨5, by rw [decide_eq_false y]; rfl, by omega, by omega⟩
      obtain ⟨zm, ezm, z1, z2⟩ := pickm
      refine i_ix (.inl (SqL.of e8)) ezm ⟨h, zm, rfl, hh7.same s8, by omega, by omega, fun gm H9 gm0 gm1 hh9 k9 => ?_⟩
      obtain ⟨m, em, m1, m2⟩ : ∃ m : Nat, 1 + gm = (m : Int) ∧ 1 ≤ m ∧ m ≤ ns.length := ⟨(1 + gm).toNat, by omega, by omega, by omega⟩
      have e9 := k9.one nr (s8 _ _ e7)
      have e9t := k9.one ntw (s8 _ _ e7t)
      refine i_ixN (v := .int lo) 0 e9t rfl rfl (i_ixN (v := .int hi) 1 e9t rfl rfl (.inl ⟨r, ns, m, lo, hi, (by show [V.ref r, V.int (1 + gm), V.int lo, V.int hi] = _; rw [em]), e9, by omega, rn.nn, m1, m2, fun HA sA => ?_⟩))
      have hcb := cnt40 (ns := ns) (lo := lo) (hi := hi) (m - 1) 0 hle
      rw [show m - 1 + 1 = m by omega] at hcb
      have eA := sA _ _ e9
      have eAt := sA _ _ e9t
      have hhA := hh9.same sA
      have k3A : Kp [h] H3 HA := ((((k4.same s46).trans k7).same s8).trans k9).same sA
      dsimp only [gName, tSeq, tAsg, List.set]
      rw [em]
      refine told_ok eA rn m1 m2 eAt fun pt dd HT hpt sT hdd hrv => ?_
      have s1A : Same H1 HA := fun b o hb => k3A.one (ne_of_none hb hh0) (s3 _ _ hb)
      let BaseAt : Hp → Prop := fun X => Same H1 X ∧ HandAt X h ∧ X r = some (.lst (ns.map V.int)) ∧ X tw = some (.lst [.int lo, .int hi]) ∧ RVx [h] 3 X (.ref pt) dd
      have bsame : ∀ {X X' : Hp}, Same X X' → BaseAt X → BaseAt X' := fun s' ⟨b1, b2, b3, b4, b5⟩ => ⟨b1.trans s', b2.same s', s' _ _ b3, s' _ _ b4, b5.same s'⟩
      have BT : BaseAt HT := ⟨s1A.trans sT, hhA.same sT, sT _ _ eA, sT _ _ eAt, hrv [h] (by intro b hb; simp at hb; subst hb; exact hh hhA)⟩
      refine ⟨fun σ H' => BaseAt H' ∧ ∃ o10 o11, σ = [some (.ref a), some (.ref dp), some (.int i), some (.int c), some (.ref h), some (.ref r), some (.ref tw), some (.int m), some (.int (M14.cnt ns lo hi m 0)), some (.ref pt), o10, o11], ?_, ?_⟩
      · have B := BT
        refine ⟨h, r, ns, rfl, BT.2.1, BT.2.2.1, nr, by omega, fun pn xs H7 hh7 k7 hpn e7 hxl hxs => ?_⟩
        have s17 : Same H1 H7 := fun b o hb => k7.one (ne_of_none hb hh0) (BT.1 _ _ hb)
        obtain ⟨x, y, ed, ⟨zs, ex⟩, ys, ey⟩ := hdp1.same s17
        refine i_cat e7 ed (sz_of (by simp; omega)) fun p8 H8 hp8 s8 e8 => ?_
        refine ⟨by decide, i_newE fun pv H9 hpv s9 e9 => i_newL (by show 1 ≤ sizeLine; decide) fun pz HA hpz sA eA => ?_⟩
        refine i_cat (sA _ _ (s9 _ _ e8)) eA (sz_of (by simp; omega)) fun pB HB hpB sB eB => ?_
        have s7B := s8.trans (s9.trans (sA.trans sB))
        have hall : ∀ v ∈ xs ++ [.ref x, .ref y] ++ [.ref pv], NoM HB ns.length v := by
          intro v hv
          rcases List.mem_append.mp hv with hv | hv
          · rcases List.mem_append.mp hv with hv | hv
            · exact (hxs v hv).same s7B
            · simp at hv
              rcases hv with rfl | rfl
              · exact .inl (.lst (s7B _ _ ex))
              · exact .inl (.tup (s7B _ _ ey))
          · simp at hv
            subst hv
            exact .inl (.exc (sB _ _ (sA _ _ e9)))
        have B7 : BaseAt H7 := ⟨s17, hh7, k7.one nr B.2.2.1, k7.one ntw B.2.2.2.1, B.2.2.2.2.kp k7 (by simp)⟩
        have BB := bsame s7B B7
        refine ⟨⟨_, SqL.of eB⟩, for_list (xs := xs ++ [.ref x, .ref y] ++ [.ref pv]) (fun j σ H' => Same HB H' ∧ ∃ o10 o11, σ = [some (.ref a), some (.ref dp), some (.int i), some (.int c), some (.ref h), some (.ref r), some (.ref tw), some (.int m), some (.int (M14.cnt ns lo hi m 0)), some (.ref pt), o10, o11]) ?_ ?_ ?_ ?_⟩
        · exact ⟨Same.refl _, _, _, rfl⟩
        · rintro j σ H' _ ⟨s', _⟩
          exact SqL.of (s' _ _ eB)
        · rintro j v σ HC hv ⟨sC, o10, o11, rfl⟩
          have nv := (hall v (List.mem_of_getElem? hv)).same sC
          have BC := bsame sC BB
          have hdC := hdp1.same BC.1
          obtain ⟨x', y', ed', _⟩ := id hdC
          refine i_newL (by show 1 ≤ sizeLine; decide) fun q1 G1 hq1 t1 f1 => i_newL (by show 1 ≤ sizeLine; decide) fun q2 G2 hq2 t2 f2 => i_newL (by show 1 ≤ sizeLine; decide) fun q3 G3 hq3 t3 f3 => i_newL (by show 1 ≤ sizeLine; decide) fun q4 G4 hq4 t4 f4 => i_newL (by show 6 ≤ sizeLine; decide) fun q5 G5 hq5 t5 f5 => ?_
          have tC5 : Same HC G5 := t1.trans (t2.trans (t3.trans (t4.trans t5)))
          refine ⟨⟨_, SqL.of f5⟩, for_list (xs := [.non, .ref q1, .ref q2, .ref q3, .ref q4, .ref dp]) (fun l σ H' => Same G5 H' ∧ ∃ o11, σ = [some (.ref a), some (.ref dp), some (.int i), some (.int c), some (.ref h), some (.ref r), some (.ref tw), some (.int m), some (.int (M14.cnt ns lo hi m 0)), some (.ref pt), some v, o11]) ?_ ?_ ?_ ?_⟩
          · exact ⟨Same.refl _, _, rfl⟩
          · rintro l σ H' _ ⟨s', _⟩
            exact SqL.of (s' _ _ f5)
          · rintro l u σ HD hu ⟨sD, o11, rfl⟩
            have sCD := tC5.trans sD
            have BD := bsame sCD BC
            have hpl : u = .non ∨ ∃ p y ys, u = .ref p ∧ HD p = some (.lst (y :: ys)) := by
              have := List.mem_of_getElem? hu
              simp only [List.mem_cons, List.not_mem_nil, or_false] at this
              rcases this with rfl | rfl | rfl | rfl | rfl | rfl
              · exact .inl rfl
              · exact .inr ⟨_, _, _, rfl, sD _ _ (t5 _ _ (t4 _ _ (t3 _ _ (t2 _ _ f1))))⟩
              · exact .inr ⟨_, _, _, rfl, sD _ _ (t5 _ _ (t4 _ _ (t3 _ _ f2)))⟩
              · exact .inr ⟨_, _, _, rfl, sD _ _ (t5 _ _ (t4 _ _ f3))⟩
              · exact .inr ⟨_, _, _, rfl, sD _ _ (t5 _ _ f4)⟩
              · exact .inr ⟨_, _, _, rfl, sCD _ _ ed'⟩
            exact ⟨r, tw, v, u, ns, lo, hi, 0, rfl, BD.2.2.1, rn, BD.2.2.2.1, .inl ⟨rfl, nv.same sCD, hpl⟩, fun HE sE => bF ⟨sD.trans sE, _, rfl⟩⟩
          · rintro σ H' ⟨s', o11, rfl⟩
            exact ⟨sC.trans (tC5.trans s'), _, _, rfl⟩
        · rintro σ H' ⟨s', o10, o11, rfl⟩
          exact ⟨bsame s' BB, _, _, rfl⟩
      · rintro σ HU ⟨B, o10, o11, rfl⟩
        refine ⟨fun σ H' => BaseAt H' ∧ ∃ o10 o11, σ = [some (.ref a), some (.ref dp), some (.int i), some (.int c), some (.ref h), some (.ref r), some (.ref tw), some (.int m), some (.int (M14.cnt ns lo hi m 0)), some (.ref pt), o10, o11], ?_, ?_⟩
        · have B0 := B
          refine ⟨h, _, rfl, B.2.1, hcb.1, hcb.2, fun pn xs H7 hh7 k7 hpn e7 hxl hxs => ?_⟩
          have s17 : Same H1 H7 := fun b o hb => k7.one (ne_of_none hb hh0) (B.1 _ _ hb)
          obtain ⟨x, y, ed, ⟨zs, ex⟩, ys, ey⟩ := hdp1.same s17
          refine i_cat e7 ed (sz_of (by simp; omega)) fun p8 H8 hp8 s8 e8 => ?_
          refine ⟨by decide, i_newE fun pv H9 hpv s9 e9 => i_newL (by show 1 ≤ sizeLine; decide) fun pz HA hpz sA eA => ?_⟩
          refine i_cat (sA _ _ (s9 _ _ e8)) eA (sz_of (by simp; omega)) fun pB HB hpB sB eB => ?_
          have s7B := s8.trans (s9.trans (sA.trans sB))
          have hall : ∀ v ∈ xs ++ [.ref x, .ref y] ++ [.ref pv], NoPl HB (M14.cnt ns lo hi m 0) v := by
            intro v hv
            rcases List.mem_append.mp hv with hv | hv
            · rcases List.mem_append.mp hv with hv | hv
              · exact (hxs v hv).same s7B
              · simp at hv
                rcases hv with rfl | rfl
                · exact .inl (.lst (s7B _ _ ex))
                · exact .inl (.tup (s7B _ _ ey))
            · simp at hv
              subst hv
              exact .inl (.exc (sB _ _ (sA _ _ e9)))
          have B7 : BaseAt H7 := ⟨s17, hh7, k7.one nr B.2.2.1, k7.one ntw B.2.2.2.1, B.2.2.2.2.kp k7 (by simp)⟩
          have BB := bsame s7B B7
          refine ⟨⟨_, SqL.of eB⟩, for_list (xs := xs ++ [.ref x, .ref y] ++ [.ref pv]) (fun j σ H' => Same HB H' ∧ ∃ o10 o11, σ = [some (.ref a), some (.ref dp), some (.int i), some (.int c), some (.ref h), some (.ref r), some (.ref tw), some (.int m), some (.int (M14.cnt ns lo hi m 0)), some (.ref pt), o10, o11]) ?_ ?_ ?_ ?_⟩
          · exact ⟨Same.refl _, _, _, rfl⟩
          · rintro j σ H' _ ⟨s', _⟩
            exact SqL.of (s' _ _ eB)
          · rintro j v σ HC hv ⟨sC, o10, o11, rfl⟩
            have nv := (hall v (List.mem_of_getElem? hv)).same sC
            have BC := bsame sC BB
            refine i_newL (by show 1 ≤ sizeLine; decide) fun q1 G1 hq1 t1 f1 => ?_
            have B1 := bsame t1 BC
            refine ⟨r, tw, _, _, ns, lo, hi, 1, rfl, B1.2.2.1, rn, B1.2.2.2.1, .inr ⟨rfl, m, q1, v, [], rfl, m1, m2, rfl, f1, nv.same t1⟩, fun G2 t2 => bF ?_⟩
            refine i_newL (by show 1 ≤ sizeLine; decide) fun q3 G3 hq3 t3 f3 => ?_
            have B3 := bsame (t2.trans t3) B1
            exact ⟨r, tw, _, _, ns, lo, hi, 1, rfl, B3.2.2.1, rn, B3.2.2.2.1, .inr ⟨rfl, m, q3, v, [], rfl, m1, m2, rfl, f3, nv.same (t1.trans (t2.trans t3))⟩, fun G4 t4 => bF ⟨sC.trans (t1.trans (t2.trans (t3.trans t4))), _, _, rfl⟩⟩
          · rintro σ H' ⟨s', o10, o11, rfl⟩
            exact ⟨bsame s' BB, _, _, rfl⟩
        · rintro σ HV ⟨BV, o10, o11, rfl⟩
          dsimp only [tNext, mIfS, mB, tOp, tSeq]
          refine told_ok BV.2.2.1 rn m1 m2 BV.2.2.2.1 fun pt2 dd2 HW hpt2 sW hdd2 hrv2 => ?_
          have edd := hdd2.uniq hdd
          subst edd
          have BW := bsame sW BV
          refine i_eqD 2 (by decide) (hrv2 [] (by intro b hb; simp at hb)).now BW.2.2.2.2.now (bF ?_)
          refine i_newL (by show 2 ≤ sizeLine; decide) fun q1 G1 hq1 t1 f1 => i_newL (by show 1 ≤ sizeLine; decide) fun q2 G2 hq2 t2 f2 => ?_
          have B2 := bsame (t1.trans t2) BW
          have ez : M14.cnt ns 1 0 m 0 = 0 := by have := cnt_none (ns := ns) (m - 1) 0; rwa [show m - 1 + 1 = m by omega] at this
          refine ⟨r, q1, _, _, ns, 1, 0, 1, rfl, B2.2.2.1, rn, t2 _ _ f1, .inr ⟨rfl, m, q2, .int 0, [], rfl, m1, m2, rfl, f2, .inr ⟨0, rfl, by rw [ez]; omega⟩⟩, fun G3 t3 => bF ?_⟩
          have B3 := bsame t3 B2
          refine i_ixN (v := .int lo) 0 B3.2.2.2.1 rfl rfl (i_ixN (v := .int hi) 1 B3.2.2.2.1 rfl rfl (.inl ⟨r, ns, m, lo, hi, rfl, B3.2.2.1, by omega, rn.nn, m1, m2, fun G4 t4 => bNo (by simp) ?_⟩))
          exact ⟨⟨_, _, _, _, _, _, _, _, _, _, rfl⟩, s1.trans (bsame t4 B3).1⟩
  · intro σ H' _
    trivial

end
end K

set_option linter.all false
set_option Elab.async false
set_option maxRecDepth 100000
set_option maxHeartbeats 4000000
namespace K
open PySem PySem.Spec PyProof.Rows L2
theorem all_mk {l : PySem.W.OpenLaw} {w : World} {K : PySem.W.Frag} {h : Heap} {mg : Str → Option Value} {fa f0 f1 f2 f3 f4 f5 f6 f7 f8 f9 f10 f11 f12 f13 f14 f15 f16 f17 f18 z_CutError z_NoMany z_NoPlace z_NoNumber z_NoText z_NoCommand : Addr} (X : K.In h) (G : h.Ns mainGlobals mg) (hfa : mg "law" = some (.ref fa))
    {od0 an0 od1 an1 od2 an2 od3 an3 od4 an4 od5 an5 od6 an6 od7 an7 od8 an8 od9 an9 od10 an10 od11 an11 od12 an12 od13 an13 od14 an14 od15 an15 od16 an16 od17 an17 od18 an18 : Option Addr} {sl0 sl1 sl2 sl3 sl4 sl5 sl6 sl7 sl8 sl9 sl10 sl11 sl12 sl13 sl14 sl15 sl16 sl17 sl18 : Array (Option Value)} {oc0 kV0 dc0 pm0 cd0 ct0 oc1 kV1 dc1 pm1 cd1 ct1 oc2 kV2 dc2 pm2 cd2 ct2 oc3 kV3 dc3 pm3 cd3 ct3 oc4 kV4 dc4 pm4 cd4 ct4 oc5 kV5 dc5 pm5 cd5 ct5 oc6 kV6 dc6 pm6 cd6 ct6 oc7 kV7 dc7 pm7 cd7 ct7 oc8 kV8 dc8 pm8 cd8 ct8 oc9 kV9 dc9 pm9 cd9 ct9 oc10 kV10 dc10 pm10 cd10 ct10 oc11 kV11 dc11 pm11 cd11 ct11 oc12 kV12 dc12 pm12 cd12 ct12 oc13 kV13 dc13 pm13 cd13 ct13 oc14 kV14 dc14 pm14 cd14 ct14 oc15 kV15 dc15 pm15 cd15 ct15 oc16 kV16 dc16 pm16 cd16 ct16 oc17 kV17 dc17 pm17 cd17 ct17 oc18 kV18 dc18 pm18 cd18 ct18 : Value}
    (a0 : PySem.W.nsIn K mainGlobals "_law_cells" = some (some (.ref f0))) (l0 : K.lookup f0 = some ⟨oc0, od0, .func (PySem.W.fnOf "_law_cells" "_law_cells" (defArgs s_law_cells) (defBody s_law_cells) (defScope s_law_cells) .none kV0 dc0 pm0 an0 cd0 ct0), sl0⟩) (c0 : PySem.W.codeIn K cd0 "_law_cells" = true) (k0 : PySem.W.keepIn K (.ref f0) = true)
    (a1 : PySem.W.nsIn K mainGlobals "_law_hand" = some (some (.ref f1))) (l1 : K.lookup f1 = some ⟨oc1, od1, .func (PySem.W.fnOf "_law_hand" "_law_hand" (defArgs s_law_hand) (defBody s_law_hand) (defScope s_law_hand) .none kV1 dc1 pm1 an1 cd1 ct1), sl1⟩) (c1 : PySem.W.codeIn K cd1 "_law_hand" = true) (k1 : PySem.W.keepIn K (.ref f1) = true)
    (a2 : PySem.W.nsIn K mainGlobals "_law_draw" = some (some (.ref f2))) (l2 : K.lookup f2 = some ⟨oc2, od2, .func (PySem.W.fnOf "_law_draw" "_law_draw" (defArgs s_law_draw) (defBody s_law_draw) (defScope s_law_draw) .none kV2 dc2 pm2 an2 cd2 ct2), sl2⟩) (c2 : PySem.W.codeIn K cd2 "_law_draw" = true) (k2 : PySem.W.keepIn K (.ref f2) = true)
    (a3 : PySem.W.nsIn K mainGlobals "_law_row" = some (some (.ref f3))) (l3 : K.lookup f3 = some ⟨oc3, od3, .func (PySem.W.fnOf "_law_row" "_law_row" (defArgs s_law_row) (defBody s_law_row) (defScope s_law_row) .none kV3 dc3 pm3 an3 cd3 ct3), sl3⟩) (c3 : PySem.W.codeIn K cd3 "_law_row" = true) (k3 : PySem.W.keepIn K (.ref f3) = true)
    (a4 : PySem.W.nsIn K mainGlobals "_law_great" = some (some (.ref f4))) (l4 : K.lookup f4 = some ⟨oc4, od4, .func (PySem.W.fnOf "_law_great" "_law_great" (defArgs s_law_great) (defBody s_law_great) (defScope s_law_great) .none kV4 dc4 pm4 an4 cd4 ct4), sl4⟩) (c4 : PySem.W.codeIn K cd4 "_law_great" = true) (k4 : PySem.W.keepIn K (.ref f4) = true)
    (a5 : PySem.W.nsIn K mainGlobals "_law_two_bounds" = some (some (.ref f5))) (l5 : K.lookup f5 = some ⟨oc5, od5, .func (PySem.W.fnOf "_law_two_bounds" "_law_two_bounds" (defArgs s_law_two_bounds) (defBody s_law_two_bounds) (defScope s_law_two_bounds) .none kV5 dc5 pm5 an5 cd5 ct5), sl5⟩) (c5 : PySem.W.codeIn K cd5 "_law_two_bounds" = true) (k5 : PySem.W.keepIn K (.ref f5) = true)
    (a6 : PySem.W.nsIn K mainGlobals "is_whole" = some (some (.ref f6))) (l6 : K.lookup f6 = some ⟨oc6, od6, .func (PySem.W.fnOf "is_whole" "is_whole" (defArgs s_is_whole) (defBody s_is_whole) (defScope s_is_whole) .none kV6 dc6 pm6 an6 cd6 ct6), sl6⟩) (c6 : PySem.W.codeIn K cd6 "is_whole" = true) (k6 : PySem.W.keepIn K (.ref f6) = true)
    (a7 : PySem.W.nsIn K mainGlobals "is_within" = some (some (.ref f7))) (l7 : K.lookup f7 = some ⟨oc7, od7, .func (PySem.W.fnOf "is_within" "is_within" (defArgs s_is_within) (defBody s_is_within) (defScope s_is_within) .none kV7 dc7 pm7 an7 cd7 ct7), sl7⟩) (c7 : PySem.W.codeIn K cd7 "is_within" = true) (k7 : PySem.W.keepIn K (.ref f7) = true)
    (a8 : PySem.W.nsIn K mainGlobals "check_many" = some (some (.ref f8))) (l8 : K.lookup f8 = some ⟨oc8, od8, .func (PySem.W.fnOf "check_many" "check_many" (defArgs s_check_many) (defBody s_check_many) (defScope s_check_many) .none kV8 dc8 pm8 an8 cd8 ct8), sl8⟩) (c8 : PySem.W.codeIn K cd8 "check_many" = true) (k8 : PySem.W.keepIn K (.ref f8) = true)
    (a9 : PySem.W.nsIn K mainGlobals "count_ways" = some (some (.ref f9))) (l9 : K.lookup f9 = some ⟨oc9, od9, .func (PySem.W.fnOf "count_ways" "count_ways" (defArgs s_count_ways) (defBody s_count_ways) (defScope s_count_ways) .none kV9 dc9 pm9 an9 cd9 ct9), sl9⟩) (c9 : PySem.W.codeIn K cd9 "count_ways" = true) (k9 : PySem.W.keepIn K (.ref f9) = true)
    (a10 : PySem.W.nsIn K mainGlobals "sums_ahead" = some (some (.ref f10))) (l10 : K.lookup f10 = some ⟨oc10, od10, .func (PySem.W.fnOf "sums_ahead" "sums_ahead" (defArgs s_sums_ahead) (defBody s_sums_ahead) (defScope s_sums_ahead) .none kV10 dc10 pm10 an10 cd10 ct10), sl10⟩) (c10 : PySem.W.codeIn K cd10 "sums_ahead" = true) (k10 : PySem.W.keepIn K (.ref f10) = true)
    (a11 : PySem.W.nsIn K mainGlobals "end_ranges" = some (some (.ref f11))) (l11 : K.lookup f11 = some ⟨oc11, od11, .func (PySem.W.fnOf "end_ranges" "end_ranges" (defArgs s_end_ranges) (defBody s_end_ranges) (defScope s_end_ranges) .none kV11 dc11 pm11 an11 cd11 ct11), sl11⟩) (c11 : PySem.W.codeIn K cd11 "end_ranges" = true) (k11 : PySem.W.keepIn K (.ref f11) = true)
    (a12 : PySem.W.nsIn K mainGlobals "cuts_between" = some (some (.ref f12))) (l12 : K.lookup f12 = some ⟨oc12, od12, .func (PySem.W.fnOf "cuts_between" "cuts_between" (defArgs s_cuts_between) (defBody s_cuts_between) (defScope s_cuts_between) .none kV12 dc12 pm12 an12 cd12 ct12), sl12⟩) (c12 : PySem.W.codeIn K cd12 "cuts_between" = true) (k12 : PySem.W.keepIn K (.ref f12) = true)
    (a13 : PySem.W.nsIn K mainGlobals "cut_at" = some (some (.ref f13))) (l13 : K.lookup f13 = some ⟨oc13, od13, .func (PySem.W.fnOf "cut_at" "cut_at" (defArgs s_cut_at) (defBody s_cut_at) (defScope s_cut_at) .none kV13 dc13 pm13 an13 cd13 ct13), sl13⟩) (c13 : PySem.W.codeIn K cd13 "cut_at" = true) (k13 : PySem.W.keepIn K (.ref f13) = true)
    (a14 : PySem.W.nsIn K mainGlobals "_law_no_many" = some (some (.ref f14))) (l14 : K.lookup f14 = some ⟨oc14, od14, .func (PySem.W.fnOf "_law_no_many" "_law_no_many" (defArgs s_law_no_many) (defBody s_law_no_many) (defScope s_law_no_many) .none kV14 dc14 pm14 an14 cd14 ct14), sl14⟩) (c14 : PySem.W.codeIn K cd14 "_law_no_many" = true) (k14 : PySem.W.keepIn K (.ref f14) = true)
    (a15 : PySem.W.nsIn K mainGlobals "_law_just" = some (some (.ref f15))) (l15 : K.lookup f15 = some ⟨oc15, od15, .func (PySem.W.fnOf "_law_just" "_law_just" (defArgs s_law_just) (defBody s_law_just) (defScope s_law_just) .none kV15 dc15 pm15 an15 cd15 ct15), sl15⟩) (c15 : PySem.W.codeIn K cd15 "_law_just" = true) (k15 : PySem.W.keepIn K (.ref f15) = true)
    (a16 : PySem.W.nsIn K mainGlobals "_law_refused" = some (some (.ref f16))) (l16 : K.lookup f16 = some ⟨oc16, od16, .func (PySem.W.fnOf "_law_refused" "_law_refused" (defArgs s_law_refused) (defBody s_law_refused) (defScope s_law_refused) .none kV16 dc16 pm16 an16 cd16 ct16), sl16⟩) (c16 : PySem.W.codeIn K cd16 "_law_refused" = true) (k16 : PySem.W.keepIn K (.ref f16) = true)
    (a17 : PySem.W.nsIn K mainGlobals "_law_no_places" = some (some (.ref f17))) (l17 : K.lookup f17 = some ⟨oc17, od17, .func (PySem.W.fnOf "_law_no_places" "_law_no_places" (defArgs s_law_no_places) (defBody s_law_no_places) (defScope s_law_no_places) .none kV17 dc17 pm17 an17 cd17 ct17), sl17⟩) (c17 : PySem.W.codeIn K cd17 "_law_no_places" = true) (k17 : PySem.W.keepIn K (.ref f17) = true)
    (a18 : PySem.W.nsIn K mainGlobals "law" = some (some (.ref f18))) (l18 : K.lookup f18 = some ⟨oc18, od18, .func (PySem.W.fnOf "law" "law" (defArgs s_law) (defBody s_law) (defScope s_law) .none kV18 dc18 pm18 an18 cd18 ct18), sl18⟩) (c18 : PySem.W.codeIn K cd18 "law" = true) (k18 : PySem.W.keepIn K (.ref f18) = true)
    (e_CutError : PySem.W.nsIn K mainGlobals "CutError" = some (some (.ref z_CutError)))
    (e_NoMany : PySem.W.nsIn K mainGlobals "NoMany" = some (some (.ref z_NoMany)))
    (e_NoPlace : PySem.W.nsIn K mainGlobals "NoPlace" = some (some (.ref z_NoPlace)))
    (e_NoNumber : PySem.W.nsIn K mainGlobals "NoNumber" = some (some (.ref z_NoNumber)))
    (e_NoText : PySem.W.nsIn K mainGlobals "NoText" = some (some (.ref z_NoText)))
    (e_NoCommand : PySem.W.nsIn K mainGlobals "NoCommand" = some (some (.ref z_NoCommand)))
    (w_CutError : PySem.W.excIn K z_CutError bmV "ValueError.__new__" = true)
    (w_NoMany : PySem.W.excIn K z_NoMany bmV "ValueError.__new__" = true)
    (w_NoPlace : PySem.W.excIn K z_NoPlace bmV "ValueError.__new__" = true)
    (w_NoNumber : PySem.W.excIn K z_NoNumber bmV "ValueError.__new__" = true)
    (w_NoText : PySem.W.excIn K z_NoText bmV "ValueError.__new__" = true)
    (w_NoCommand : PySem.W.excIn K z_NoCommand bmV "ValueError.__new__" = true)
    (bVE : PySem.W.nsIn K mainGlobals "ValueError" = some none)
    (i_NoMany_own : PySem.W.excIn K z_NoMany bmV "ValueError.__new__" = true)
    (i_NoMany_cl : PySem.W.findIn K (.ref z_NoMany) "__class__" = some (some (.builtin "object.__class__")))
    (i_NoMany_ob : PySem.W.mroIn K z_NoMany (.type "object") = some true)
    (i_NoMany_be : PySem.W.mroIn K z_NoMany (.type "BaseException") = some true)
    (i_NoMany_ga : PySem.W.findIn K (.ref z_NoMany) "__getattribute__" = some (some (.builtin "BaseException.__getattribute__")))
    (i_NoMany_gn : PySem.W.findIn K (.ref z_NoMany) "__getattr__" = some none)
    (m_NoMany_CutError : PySem.W.exmOne K (.ref z_NoMany) (.ref z_CutError) = some true)
    (k_NoMany_NoMany : PySem.W.kitOne K (.ref z_NoMany) (.ref z_NoMany) = some true)
    (k_NoMany_NoPlace : PySem.W.kitOne K (.ref z_NoMany) (.ref z_NoPlace) = some false)
    (k_NoMany_NoNumber : PySem.W.kitOne K (.ref z_NoMany) (.ref z_NoNumber) = some false)
    (k_NoMany_NoText : PySem.W.kitOne K (.ref z_NoMany) (.ref z_NoText) = some false)
    (k_NoMany_NoCommand : PySem.W.kitOne K (.ref z_NoMany) (.ref z_NoCommand) = some false)
    (k_NoMany_ValueError : PySem.W.kitOne K (.ref z_NoMany) (.type "ValueError") = some true)
    (i_NoPlace_own : PySem.W.excIn K z_NoPlace bmV "ValueError.__new__" = true)
    (i_NoPlace_cl : PySem.W.findIn K (.ref z_NoPlace) "__class__" = some (some (.builtin "object.__class__")))
    (i_NoPlace_ob : PySem.W.mroIn K z_NoPlace (.type "object") = some true)
    (i_NoPlace_be : PySem.W.mroIn K z_NoPlace (.type "BaseException") = some true)
    (i_NoPlace_ga : PySem.W.findIn K (.ref z_NoPlace) "__getattribute__" = some (some (.builtin "BaseException.__getattribute__")))
    (i_NoPlace_gn : PySem.W.findIn K (.ref z_NoPlace) "__getattr__" = some none)
    (m_NoPlace_CutError : PySem.W.exmOne K (.ref z_NoPlace) (.ref z_CutError) = some true)
    (k_NoPlace_NoMany : PySem.W.kitOne K (.ref z_NoPlace) (.ref z_NoMany) = some false)
    (k_NoPlace_NoPlace : PySem.W.kitOne K (.ref z_NoPlace) (.ref z_NoPlace) = some true)
    (k_NoPlace_NoNumber : PySem.W.kitOne K (.ref z_NoPlace) (.ref z_NoNumber) = some false)
    (k_NoPlace_NoText : PySem.W.kitOne K (.ref z_NoPlace) (.ref z_NoText) = some false)
    (k_NoPlace_NoCommand : PySem.W.kitOne K (.ref z_NoPlace) (.ref z_NoCommand) = some false)
    (k_NoPlace_ValueError : PySem.W.kitOne K (.ref z_NoPlace) (.type "ValueError") = some true)
    (z0 : PySem.W.nsIn K mainGlobals "list" = some none) (z1 : PySem.W.nsIn K mainGlobals "enumerate" = some none) (z2 : PySem.W.nsIn K mainGlobals "int" = some none) (z3 : PySem.W.nsIn K mainGlobals "sum" = some none) (z4 : PySem.W.nsIn K mainGlobals "range" = some none) (z5 : PySem.W.nsIn K mainGlobals "sorted" = some none) (z6 : PySem.W.nsIn K mainGlobals "max" = some none) (z7 : PySem.W.nsIn K mainGlobals "min" = some none) (z8 : PySem.W.nsIn K mainGlobals "len" = some none) (z9 : PySem.W.nsIn K mainGlobals "repr" = some none) (z10 : PySem.W.nsIn K mainGlobals "isinstance" = some none) (z11 : PySem.W.nsIn K mainGlobals "zip" = some none) (z12 : PySem.W.nsIn K mainGlobals "bool" = some none) (z13 : PySem.W.nsIn K mainGlobals "tuple" = some none) (z14 : PySem.W.nsIn K mainGlobals "str" = some none) (z15 : PySem.W.nsIn K mainGlobals "dict" = some none) (z16 : PySem.W.nsIn K mainGlobals "abs" = some none) :
    ∃ fd : FuncData, (∀ (s : Shared) (v : Value), BindsTo s fd ⟨[v], []⟩ [("script", v)]) ∧ ∀ base : Heap, K.In base → base.Ns mainGlobals mg → FnOk l.prog w K mg base CX0 6 fa fd ["script"] (sp_law K) := by
  have e := hfa.symm.trans (PySem.W.mg_of X G a18)
  cases e
  have Y : ErrT K mg ⟨z_CutError, z_NoMany, z_NoPlace, z_NoNumber, z_NoText, z_NoCommand⟩ := ⟨⟨PySem.W.mg_of X G e_CutError, w_CutError⟩, ⟨PySem.W.mg_of X G e_NoMany, w_NoMany⟩, ⟨PySem.W.mg_of X G e_NoPlace, w_NoPlace⟩, ⟨PySem.W.mg_of X G e_NoNumber, w_NoNumber⟩, ⟨PySem.W.mg_of X G e_NoText, w_NoText⟩, ⟨PySem.W.mg_of X G e_NoCommand, w_NoCommand⟩, PySem.W.mg_none_of X G bVE, i_NoMany_own, i_NoMany_cl, i_NoMany_ob, i_NoMany_be, i_NoMany_ga, i_NoMany_gn, m_NoMany_CutError, k_NoMany_NoMany, k_NoMany_NoPlace, k_NoMany_NoNumber, k_NoMany_NoText, k_NoMany_NoCommand, k_NoMany_ValueError, i_NoPlace_own, i_NoPlace_cl, i_NoPlace_ob, i_NoPlace_be, i_NoPlace_ga, i_NoPlace_gn, m_NoPlace_CutError, k_NoPlace_NoMany, k_NoPlace_NoPlace, k_NoPlace_NoNumber, k_NoPlace_NoText, k_NoPlace_NoCommand, k_NoPlace_ValueError⟩
  have F0 := fun_mk (st := s_law_cells) l0 c0 k0
  have b0 := F0.binds (ps := ["script", "many"]) fun _ _ _ _ _ _ us hl => match us, hl with | [_, _], _ => rfl
  have F1 := fun_mk (st := s_law_hand) l1 c1 k1
  have b1 := F1.binds (ps := ["cell", "k"]) fun _ _ _ _ _ _ us hl => match us, hl with | [_, _], _ => rfl
  have F2 := fun_mk (st := s_law_draw) l2 c2 k2
  have b2 := F2.binds (ps := ["hand", "limit"]) fun _ _ _ _ _ _ us hl => match us, hl with | [_, _], _ => rfl
  have F3 := fun_mk (st := s_law_row) l3 c3 k3
  have b3 := F3.binds (ps := ["hand", "long"]) fun _ _ _ _ _ _ us hl => match us, hl with | [_, _], _ => rfl
  have F4 := fun_mk (st := s_law_great) l4 c4 k4
  have b4 := F4.binds (ps := ["script"]) fun _ _ _ _ _ _ us hl => match us, hl with | [_], _ => rfl
  have F5 := fun_mk (st := s_law_two_bounds) l5 c5 k5
  have b5 := F5.binds (ps := ["hand", "row"]) fun _ _ _ _ _ _ us hl => match us, hl with | [_, _], _ => rfl
  have F6 := fun_mk (st := s_is_whole) l6 c6 k6
  have b6 := F6.binds (ps := ["thing"]) fun _ _ _ _ _ _ us hl => match us, hl with | [_], _ => rfl
  have F7 := fun_mk (st := s_is_within) l7 c7 k7
  have b7 := F7.binds (ps := ["thing", "low", "high"]) fun _ _ _ _ _ _ us hl => match us, hl with | [_, _, _], _ => rfl
  have F8 := fun_mk (st := s_check_many) l8 c8 k8
  have b8 := F8.binds (ps := ["row", "many"]) fun _ _ _ _ _ _ us hl => match us, hl with | [_, _], _ => rfl
  have F9 := fun_mk (st := s_count_ways) l9 c9 k9
  have b9 := F9.binds (ps := ["ranges", "many"]) fun _ _ _ _ _ _ us hl => match us, hl with | [_, _], _ => rfl
  have F10 := fun_mk (st := s_sums_ahead) l10 c10 k10
  have b10 := F10.binds (ps := ["row"]) fun _ _ _ _ _ _ us hl => match us, hl with | [_], _ => rfl
  have F11 := fun_mk (st := s_end_ranges) l11 c11 k11
  have b11 := F11.binds (ps := ["row", "low", "high"]) fun _ _ _ _ _ _ us hl => match us, hl with | [_, _, _], _ => rfl
  have F12 := fun_mk (st := s_cuts_between) l12 c12 k12
  have b12 := F12.binds (ps := ["row", "many", "low", "high"]) fun _ _ _ _ _ _ us hl => match us, hl with | [_, _, _, _], _ => rfl
  have F13 := fun_mk (st := s_cut_at) l13 c13 k13
  have b13 := F13.binds (ps := ["row", "many", "low", "high", "place"]) fun _ _ _ _ _ _ us hl => match us, hl with | [_, _, _, _, _], _ => rfl
  have F14 := fun_mk (st := s_law_no_many) l14 c14 k14
  have b14 := F14.binds (ps := ["hand", "row"]) fun _ _ _ _ _ _ us hl => match us, hl with | [_, _], _ => rfl
  have F15 := fun_mk (st := s_law_just) l15 c15 k15
  have b15 := F15.binds (ps := ["caught", "at"]) fun _ _ _ _ _ _ us hl => match us, hl with | [_, _], _ => rfl
  have F16 := fun_mk (st := s_law_refused) l16 c16 k16
  have b16 := F16.binds (ps := ["row", "many", "two", "place", "at"]) fun _ _ _ _ _ _ us hl => match us, hl with | [_, _, _, _, _], _ => rfl
  have F17 := fun_mk (st := s_law_no_places) l17 c17 k17
  have b17 := F17.binds (ps := ["hand", "every"]) fun _ _ _ _ _ _ us hl => match us, hl with | [_, _], _ => rfl
  have F18 := fun_mk (st := s_law) l18 c18 k18
  have b18 := F18.binds (ps := ["script"]) fun _ _ _ _ _ _ us hl => match us, hl with | [_], _ => rfl
  have B : Bl mg := ⟨PySem.W.mg_none_of X G z0, PySem.W.mg_none_of X G z1, PySem.W.mg_none_of X G z2, PySem.W.mg_none_of X G z3, PySem.W.mg_none_of X G z4, PySem.W.mg_none_of X G z5, PySem.W.mg_none_of X G z6, PySem.W.mg_none_of X G z7, PySem.W.mg_none_of X G z8, PySem.W.mg_none_of X G z9, PySem.W.mg_none_of X G z10, PySem.W.mg_none_of X G z11, PySem.W.mg_none_of X G z12, PySem.W.mg_none_of X G z13, PySem.W.mg_none_of X G z14, PySem.W.mg_none_of X G z15, PySem.W.mg_none_of X G z16⟩
  refine ⟨PySem.W.fnOf "law" "law" (defArgs s_law) (defBody s_law) (defScope s_law) .none kV18 dc18 pm18 an18 cd18 ct18, fun s v => .of_eq rfl, fun base _ _ => ?_⟩
  have D_law_cells : Def l.prog w K mg base 1 "_law_cells" ["script", "many"] (sp_law_cells K) := ⟨f0, _, ok_law_cells (P := l.prog) (w := w) (base := base) B  F0, b0, k0, PySem.W.mg_of X G a0⟩
  have D_law_hand : Def l.prog w K mg base 1 "_law_hand" ["cell", "k"] sp_law_hand := ⟨f1, _, ok_law_hand (P := l.prog) (w := w) (base := base) B  F1, b1, k1, PySem.W.mg_of X G a1⟩
  have D_law_draw : Def l.prog w K mg base 1 "_law_draw" ["hand", "limit"] sp_law_draw := ⟨f2, _, ok_law_draw (P := l.prog) (w := w) (base := base) B  F2, b2, k2, PySem.W.mg_of X G a2⟩
  have D_law_row : Def l.prog w K mg base 2 "_law_row" ["hand", "long"] sp_law_row := ⟨f3, _, ok_law_row (P := l.prog) (w := w) (base := base) B D_law_draw F3, b3, k3, PySem.W.mg_of X G a3⟩
  have D_law_great : Def l.prog w K mg base 1 "_law_great" ["script"] (sp_law_great K) := ⟨f4, _, ok_law_great (P := l.prog) (w := w) (base := base) B  F4, b4, k4, PySem.W.mg_of X G a4⟩
  have D_law_two_bounds : Def l.prog w K mg base 2 "_law_two_bounds" ["hand", "row"] sp_law_two_bounds := ⟨f5, _, ok_law_two_bounds (P := l.prog) (w := w) (base := base) B D_law_draw F5, b5, k5, PySem.W.mg_of X G a5⟩
  have D_is_whole : Def l.prog w K mg base 1 "is_whole" ["thing"] sp_is_whole := ⟨f6, _, ok_is_whole (P := l.prog) (w := w) (base := base) B  F6, b6, k6, PySem.W.mg_of X G a6⟩
  have D_is_within : Def l.prog w K mg base 2 "is_within" ["thing", "low", "high"] sp_is_within := ⟨f7, _, ok_is_within (P := l.prog) (w := w) (base := base) B D_is_whole F7, b7, k7, PySem.W.mg_of X G a7⟩
  have D_check_many : DefX l.prog w K mg base 3 "check_many" ["row", "many"] (sp_check_many ⟨z_CutError, z_NoMany, z_NoPlace, z_NoNumber, z_NoText, z_NoCommand⟩) := ⟨f8, _, ok_check_many (P := l.prog) (w := w) (base := base) B Y D_is_within F8, b8, k8, PySem.W.mg_of X G a8⟩
  have D_count_ways : Def l.prog w K mg base 1 "count_ways" ["ranges", "many"] sp_count_ways := ⟨f9, _, ok_count_ways (P := l.prog) (w := w) (base := base) B  F9, b9, k9, PySem.W.mg_of X G a9⟩
  have D_sums_ahead : Def l.prog w K mg base 1 "sums_ahead" ["row"] sp_sums_ahead := ⟨f10, _, ok_sums_ahead (P := l.prog) (w := w) (base := base) B  F10, b10, k10, PySem.W.mg_of X G a10⟩
  have D_end_ranges : Def l.prog w K mg base 2 "end_ranges" ["row", "low", "high"] sp_end_ranges := ⟨f11, _, ok_end_ranges (P := l.prog) (w := w) (base := base) B D_sums_ahead F11, b11, k11, PySem.W.mg_of X G a11⟩
  have D_cuts_between : DefX l.prog w K mg base 4 "cuts_between" ["row", "many", "low", "high"] (sp_cuts_between ⟨z_CutError, z_NoMany, z_NoPlace, z_NoNumber, z_NoText, z_NoCommand⟩) := ⟨f12, _, ok_cuts_between (P := l.prog) (w := w) (base := base) B D_check_many D_count_ways D_end_ranges F12, b12, k12, PySem.W.mg_of X G a12⟩
  have D_cut_at : DefX l.prog w K mg base 4 "cut_at" ["row", "many", "low", "high", "place"] (sp_cut_at ⟨z_CutError, z_NoMany, z_NoPlace, z_NoNumber, z_NoText, z_NoCommand⟩) := ⟨f13, _, ok_cut_at (P := l.prog) (w := w) (base := base) B Y D_check_many D_end_ranges D_count_ways D_is_within F13, b13, k13, PySem.W.mg_of X G a13⟩
  have D_law_no_many : Def l.prog w K mg base 2 "_law_no_many" ["hand", "row"] sp_law_no_many := ⟨f14, _, ok_law_no_many (P := l.prog) (w := w) (base := base) B D_law_draw F14, b14, k14, PySem.W.mg_of X G a14⟩
  have D_law_just : Def l.prog w K mg base 1 "_law_just" ["caught", "at"] (sp_law_just ⟨z_CutError, z_NoMany, z_NoPlace, z_NoNumber, z_NoText, z_NoCommand⟩) := ⟨f15, _, ok_law_just (P := l.prog) (w := w) (base := base) B Y  F15, b15, k15, PySem.W.mg_of X G a15⟩
  have D_law_refused : Def l.prog w K mg base 5 "_law_refused" ["row", "many", "two", "place", "at"] sp_law_refused := ⟨f16, _, ok_law_refused (P := l.prog) (w := w) (base := base) B Y D_cuts_between D_cut_at D_law_just F16, b16, k16, PySem.W.mg_of X G a16⟩
  have D_law_no_places : Def l.prog w K mg base 2 "_law_no_places" ["hand", "every"] sp_law_no_places := ⟨f17, _, ok_law_no_places (P := l.prog) (w := w) (base := base) B D_law_draw F17, b17, k17, PySem.W.mg_of X G a17⟩
  exact ok_law (P := l.prog) (w := w) (base := base) B Y D_law_cells D_law_hand D_law_row D_law_great D_law_two_bounds D_law_draw D_cuts_between D_cut_at D_law_no_many D_law_refused D_law_no_places F18
theorem walk {l : PySem.W.OpenLaw} {q : Program} {loose : List Str} {XP : (Str → Option Value) → Heap → Prop} {YP : World → Heap → Prop} {d : DefRec} {K : Params → PySem.W.Frag} (hn : l.most = some 63) (hdf : d.params.defaults = [])
    (hY : ∀ (w : World) (h : Heap), YP w h → (K w.params).In h)
    (F : ∀ (w : World) (mg : Str → Option Value) (fa : Addr) (h : Heap), (K w.params).In h → h.Ns mainGlobals mg → mg d.name = some (.ref fa) →
      ∃ fd : FuncData, (∀ (s : Shared) (u : Value), BindsTo s fd ⟨[u], []⟩ [("script", u)]) ∧ ∀ base : Heap, (K w.params).In base → base.Ns mainGlobals mg → FnOk l.prog w (K w.params) mg base CX0 6 fa fd ["script"] (sp_law (K w.params))) :
    PySem.W.WalkO q loose XP YP l.row.toRowW d [] (fun f vs => PySem.call f vs) :=
  L2.walk_of (n := 63) (k := 6) (x := "script") (CX := fun _ => CX0) (sp := fun w => sp_law (K w.params)) hn (by decide) hdf ⟨rfl, by decide, by decide, rfl⟩ hY F (fun _ _ a ns hl _ hS => ⟨a, ns, rfl, hS, hl, fun _ => rfl⟩) fun _ _ _ _ _ z => z
end K
open PySem PySem.W PyProof.Rows
set_option maxRecDepth 100000 in
set_option maxHeartbeats 0 in
theorem PySem.Challenge.cw_piecebounds_k16_no_cuts_of_that_number_holds : PySem.Challenge.rw_piecebounds_k16_no_cuts_of_that_number.Holds := by
  w_on; o_law; k_head; (case hw => w_witness2)
  k_fill
  refine K.walk (l := PySem.Challenge.rw_piecebounds_k16_no_cuts_of_that_number) rfl rfl (fun w h Y => PySem.W.kIn_of Y) ?F
  case F =>
    intro w mg fa h KX G hmg
    refine' K.all_mk KX G hmg ?a0 ?l0 ?c0 ?k0 ?a1 ?l1 ?c1 ?k1 ?a2 ?l2 ?c2 ?k2 ?a3 ?l3 ?c3 ?k3 ?a4 ?l4 ?c4 ?k4 ?a5 ?l5 ?c5 ?k5 ?a6 ?l6 ?c6 ?k6 ?a7 ?l7 ?c7 ?k7 ?a8 ?l8 ?c8 ?k8 ?a9 ?l9 ?c9 ?k9 ?a10 ?l10 ?c10 ?k10 ?a11 ?l11 ?c11 ?k11 ?a12 ?l12 ?c12 ?k12 ?a13 ?l13 ?c13 ?k13 ?a14 ?l14 ?c14 ?k14 ?a15 ?l15 ?c15 ?k15 ?a16 ?l16 ?c16 ?k16 ?a17 ?l17 ?c17 ?k17 ?a18 ?l18 ?c18 ?k18 ?e_CutError ?e_NoMany ?e_NoPlace ?e_NoNumber ?e_NoText ?e_NoCommand ?w_CutError ?w_NoMany ?w_NoPlace ?w_NoNumber ?w_NoText ?w_NoCommand ?bVE ?i_NoMany_own ?i_NoMany_cl ?i_NoMany_ob ?i_NoMany_be ?i_NoMany_ga ?i_NoMany_gn ?m_NoMany_CutError ?k_NoMany_NoMany ?k_NoMany_NoPlace ?k_NoMany_NoNumber ?k_NoMany_NoText ?k_NoMany_NoCommand ?k_NoMany_ValueError ?i_NoPlace_own ?i_NoPlace_cl ?i_NoPlace_ob ?i_NoPlace_be ?i_NoPlace_ga ?i_NoPlace_gn ?m_NoPlace_CutError ?k_NoPlace_NoMany ?k_NoPlace_NoPlace ?k_NoPlace_NoNumber ?k_NoPlace_NoText ?k_NoPlace_NoCommand ?k_NoPlace_ValueError ?z0 ?z1 ?z2 ?z3 ?z4 ?z5 ?z6 ?z7 ?z8 ?z9 ?z10 ?z11 ?z12 ?z13 ?z14 ?z15 ?z16
    (case e_CutError => k_is); (case e_NoMany => k_is); (case e_NoPlace => k_is); (case e_NoNumber => k_is); (case e_NoText => k_is); (case e_NoCommand => k_is); (case a0 => k_is); (case l0 => k_is); (case c0 => k_is); (case k0 => k_is); (case a1 => k_is); (case l1 => k_is); (case c1 => k_is); (case k1 => k_is); (case a2 => k_is); (case l2 => k_is); (case c2 => k_is); (case k2 => k_is); (case a3 => k_is); (case l3 => k_is); (case c3 => k_is); (case k3 => k_is); (case a4 => k_is); (case l4 => k_is); (case c4 => k_is); (case k4 => k_is); (case a5 => k_is); (case l5 => k_is); (case c5 => k_is); (case k5 => k_is); (case a6 => k_is); (case l6 => k_is); (case c6 => k_is); (case k6 => k_is); (case a7 => k_is); (case l7 => k_is); (case c7 => k_is); (case k7 => k_is); (case a8 => k_is); (case l8 => k_is); (case c8 => k_is); (case k8 => k_is); (case a9 => k_is); (case l9 => k_is); (case c9 => k_is); (case k9 => k_is); (case a10 => k_is); (case l10 => k_is); (case c10 => k_is); (case k10 => k_is); (case a11 => k_is); (case l11 => k_is); (case c11 => k_is); (case k11 => k_is); (case a12 => k_is); (case l12 => k_is); (case c12 => k_is); (case k12 => k_is); (case a13 => k_is); (case l13 => k_is); (case c13 => k_is); (case k13 => k_is); (case a14 => k_is); (case l14 => k_is); (case c14 => k_is); (case k14 => k_is); (case a15 => k_is); (case l15 => k_is); (case c15 => k_is); (case k15 => k_is); (case a16 => k_is); (case l16 => k_is); (case c16 => k_is); (case k16 => k_is); (case a17 => k_is); (case l17 => k_is); (case c17 => k_is); (case k17 => k_is); (case a18 => k_is); (case l18 => k_is); (case c18 => k_is); (case k18 => k_is); (case w_CutError => kernel_rfl); (case w_NoMany => kernel_rfl); (case w_NoPlace => kernel_rfl); (case w_NoNumber => kernel_rfl); (case w_NoText => kernel_rfl); (case w_NoCommand => kernel_rfl); (case bVE => k_is); (case i_NoMany_own => kernel_rfl); (case i_NoMany_cl => k_is); (case i_NoMany_ob => k_is); (case i_NoMany_be => k_is); (case i_NoMany_ga => k_is); (case i_NoMany_gn => k_is); (case m_NoMany_CutError => kernel_rfl); (case k_NoMany_NoMany => kernel_rfl); (case k_NoMany_NoPlace => kernel_rfl); (case k_NoMany_NoNumber => kernel_rfl); (case k_NoMany_NoText => kernel_rfl); (case k_NoMany_NoCommand => kernel_rfl); (case k_NoMany_ValueError => kernel_rfl); (case i_NoPlace_own => kernel_rfl); (case i_NoPlace_cl => k_is); (case i_NoPlace_ob => k_is); (case i_NoPlace_be => k_is); (case i_NoPlace_ga => k_is); (case i_NoPlace_gn => k_is); (case m_NoPlace_CutError => kernel_rfl); (case k_NoPlace_NoMany => kernel_rfl); (case k_NoPlace_NoPlace => kernel_rfl); (case k_NoPlace_NoNumber => kernel_rfl); (case k_NoPlace_NoText => kernel_rfl); (case k_NoPlace_NoCommand => kernel_rfl); (case k_NoPlace_ValueError => kernel_rfl); (case z0 => k_is); (case z1 => k_is); (case z2 => k_is); (case z3 => k_is); (case z4 => k_is); (case z5 => k_is); (case z6 => k_is); (case z7 => k_is); (case z8 => k_is); (case z9 => k_is); (case z10 => k_is); (case z11 => k_is); (case z12 => k_is); (case z13 => k_is); (case z14 => k_is); (case z15 => k_is); (case z16 => k_is)

