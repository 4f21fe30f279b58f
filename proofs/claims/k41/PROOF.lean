import PyProof.Rows.All
import Wide.All
import OpenK.AllK
import Wide.FinOn
import Lean
import PyProof.EqAt
import PyProof.EqKinds
import PyProof.TupleCall
import PySem.Challenge.RW_piecebounds_k41_whole_rings_turned
set_option Elab.async false
set_option linter.all false
set_option maxRecDepth 100000
/-! THE HAND LAYER, for ints, bools, texts, own classes, LISTS and tuples (index, slices, in, append, pop ..), calls, loops. Paste it whole ahead of your own text; what your proof does not reach may be deleted. -/
namespace L2
open PySem PySem.Spec PyProof.Rows

/-- a key: an int or a str -/
abbrev Key := Sum Int Str
def keyIs : Key → Value → Bool
  | .inl k, v => Value.isInt k v
  | .inr x, v => Value.isStrOf x v
def keyH (w : World) : Key → Int
  | .inl k => hashInt k
  | .inr x => hashStr w x
theorem keyIs_shape : ∀ {k : Key} {v : Value}, keyIs k v = true → (∃ i t, k = Sum.inl i ∧ v = Value.int i t) ∨ (∃ x t, k = Sum.inr x ∧ v = Value.str x t)
  | .inl i, v, h => by
    obtain ⟨t, e⟩ := Value.isInt_shape (k := i) (v := v) h
    exact .inl ⟨i, t, rfl, e⟩
  | .inr x, v, h => by
    obtain ⟨t, e⟩ := Value.isStrOf_shape (x := x) (v := v) h
    exact .inr ⟨x, t, rfl, e⟩
theorem key_ll (a b : Int) : decide ((Sum.inl a : Key) = Sum.inl b) = (a == b) := by
  by_cases e : a = b
  · subst e; simp
  · have h : ¬ (Sum.inl a : Key) = Sum.inl b := fun q => e (Sum.inl.inj q)
    rw [decide_eq_false h]
    exact (beq_eq_false_iff_ne.mpr e).symm
theorem key_rr (a b : Str) : decide ((Sum.inr a : Key) = Sum.inr b) = decide (a = b) := by
  by_cases e : a = b
  · subst e; simp
  · have h : ¬ (Sum.inr a : Key) = Sum.inr b := fun q => e (Sum.inr.inj q)
    rw [decide_eq_false h, decide_eq_false e]
theorem key_lr (a : Int) (b : Str) : decide ((Sum.inl a : Key) = Sum.inr b) = false := decide_eq_false (fun q => nomatch q)
theorem key_rl (a : Str) (b : Int) : decide ((Sum.inr a : Key) = Sum.inl b) = false := decide_eq_false (fun q => nomatch q)

def mixKind (prog : Program) (w : World) : PySem.KeyKind prog w Key where
  is := keyIs
  hash := keyH w
  inj := fun v a b ha hb => by
    rcases keyIs_shape ha with ⟨i, t, rfl, rfl⟩ | ⟨x, t, rfl, rfl⟩
    · rcases keyIs_shape hb with ⟨j, u, rfl, e⟩ | ⟨y, u, rfl, e⟩
      · injection e with e1 _; rw [e1]
      · exact nomatch e
    · rcases keyIs_shape hb with ⟨j, u, rfl, e⟩ | ⟨y, u, rfl, e⟩
      · exact nomatch e
      · injection e with e1 _; rw [e1]
  byValue := fun k v h => by
    rcases keyIs_shape h with ⟨i, t, rfl, rfl⟩ | ⟨x, t, rfl, rfl⟩ <;> rfl
  pyHash := fun hv h => by
    rcases keyIs_shape hv with ⟨i, t, rfl, rfl⟩ | ⟨x, t, rfl, rfl⟩
    · exact wpAny_pyHash_int h
    · exact wpAny_pyHash_str h
  eqBool := fun hu hv h => by
    rcases keyIs_shape hu with ⟨i, t, rfl, rfl⟩ | ⟨x, t, rfl, rfl⟩
    · rcases keyIs_shape hv with ⟨j, u, rfl, rfl⟩ | ⟨y, u, rfl, rfl⟩
      · rw [key_ll] at h; exact wpAny_eqBool_int h
      · rw [key_lr] at h; exact SeqAt.EqAt.int_str i t y u _ _ _ _ h
    · rcases keyIs_shape hv with ⟨j, u, rfl, rfl⟩ | ⟨y, u, rfl, rfl⟩
      · rw [key_rl] at h; exact SeqAt.EqAt.str_int x t j u _ _ _ _ h
      · rw [key_rr] at h; exact wpAny_eqBool_str h
  «strs» := fun k x t v h => by
    rcases keyIs_shape h with ⟨i, u, rfl, e⟩ | ⟨y, u, rfl, e⟩
    · exact nomatch e
    · injection e with e1 _
      subst e1
      cases v <;> rfl

end L2

namespace L2
open PySem PySem.Spec PyProof.Rows

/-- a value, without the heap -/
inductive V where
  | non | bl (b : Bool) | int (i : Int) | str (x : Str) | byt (b : Array UInt8) | flt (b : UInt64) | ref (a : Addr) | ty (n : String)
  deriving DecidableEq

def RelV : V → Value → Prop
  | .non, u => u = Value.none
  | .bl b, u => u = Value.bool b
  | .int i, u => ∃ t, u = Value.int i t
  | .str x, u => ∃ t, u = Value.str x t
  | .byt b, u => ∃ t, u = Value.bytes b t
  | .flt b, u => ∃ t, u = Value.float b t
  | .ref a, u => u = Value.ref a
  | .ty n, u => u = Value.type n

abbrev Vals : List V → List Value → Prop := Paired RelV
theorem Vals.length {xs : List V} {us : List Value} (r : Vals xs us) : xs.length = us.length := Paired.length r
theorem Vals.get : ∀ {xs : List V} {us : List Value} {i : Nat} {x : V}, Vals xs us → xs[i]? = some x → ∃ u, us[i]? = some u ∧ RelV x u
  | _, _, _, _, .nil, e => by simp at e
  | _, _, 0, _, .cons r _, e => by simp at e; subst e; exact ⟨_, rfl, r⟩
  | _, _, i + 1, x, .cons _ t, e => by
    obtain ⟨u, h1, h2⟩ := Vals.get (i := i) (x := x) t (by simpa using e)
    exact ⟨u, by simpa using h1, h2⟩
theorem Vals.set {x : V} {u : Value} (r : RelV x u) : ∀ {xs : List V} {us : List Value} (i : Nat), Vals xs us → Vals (xs.set i x) (us.set i u)
  | _, _, _, .nil => .nil
  | _, _, 0, .cons _ t => .cons r t
  | _, _, i + 1, .cons q t => .cons q (Vals.set r i t)
theorem Vals.append : ∀ {xs ys : List V} {us ws : List Value}, Vals xs us → Vals ys ws → Vals (xs ++ ys) (us ++ ws)
  | _, _, _, _, .nil, s => s
  | _, _, _, _, .cons r t, s => .cons r (Vals.append t s)
theorem Vals.take : ∀ {xs : List V} {us : List Value} (n : Nat), Vals xs us → Vals (xs.take n) (us.take n)
  | _, _, 0, _ => .nil
  | _, _, _ + 1, .nil => .nil
  | _, _, n + 1, .cons r t => .cons r (Vals.take n t)
theorem Vals.drop : ∀ {xs : List V} {us : List Value} (n : Nat), Vals xs us → Vals (xs.drop n) (us.drop n)
  | _, _, 0, r => r
  | _, _, _ + 1, .nil => .nil
  | _, _, n + 1, .cons _ t => Vals.drop n t
def RelO : Option V → Option Value → Prop
  | some v, some u => RelV v u
  | none, none => True
  | _, _ => False
def KV {κ : Type} : List (κ × V) → List (κ × Value) → Prop := Paired fun (p : κ × V) (q : κ × Value) => p.1 = q.1 ∧ RelV p.2 q.2

/-- a key of a dict (00_mix): an int or a text -/
def kV : Key → V
  | .inl i => .int i
  | .inr x => .str x

/-- what stands at a tracked address -/
inductive HO where
  /-- a list -/
  | lst (xs : List V)
  /-- a tuple (never changes) -/
  | tup (xs : List V)
  /-- a dict whose keys are ints and texts; one whose keys are tuples of ints and texts (the empty one is both) -/
  | dK (kvs : List (Key × V)) | dT (kvs : List (List Key × V))
  /-- a set of ints: its members, its size -/
  | set (S : Int → Bool) (n : Nat)
  /-- an instance of the class at C, its dict at dx, its attributes -/
  | ins (C dx : Addr) (fs : List (Str × V))
  /-- the dict of the instance at x -/
  | own (x : Addr)
  /-- the dict of an exception -/
  | xd (fs : List (Str × V))
  /-- a bound method, f of x -/
  | met (f x : Addr)
  /-- a range object lo, lo + 1, .. below hi -/
  | rng (lo hi : Int)
  /-- a thing that is known to the object (the script; a dict while a loop walks it): read, never written while it is so -/
  | frz (o : Obj) (u : HO)
  /-- a code object's table -/
  | tbl (ps : Array Value)
  /-- any other thing, by what is true of its one object (a def of one's own: SetO a S n := HO.ext fun h => ..) -/
  | ext (φ : Heap → Prop)

abbrev Hp := Addr → Option HO
def upd (H : Hp) (a : Addr) (o : HO) : Hp := fun b => if b = a then some o else H b
theorem upd_same {H : Hp} {a : Addr} {o : HO} : upd H a o a = some o := by unfold upd; rw [if_pos rfl]
theorem upd_ne {H : Hp} {a b : Addr} {o : HO} (h : b ≠ a) : upd H a o b = H b := by unfold upd; rw [if_neg h]
theorem ne_of_none {H : Hp} {a b : Addr} {o : HO} (h : H a = some o) (h' : H b = none) : a ≠ b := by
  intro e; subst e; rw [h] at h'; cases h'

section
variable (P : Program) (w : World)
def ObjOk (H : Hp) (h : Heap) (a : Addr) : HO → Prop
  | .lst xs => xs.length ≤ sizeLine ∧ ∃ (its : List Value) (n : Nat), Vals xs its ∧ h.get? a = some { cls := .type "list", data := .seq its.toArray n }
  | .tup xs => xs.length ≤ sizeLine ∧ ∃ its : List Value, Vals xs its ∧ IsTup h a its.toArray
  | .dK kvs => kvs.length ≤ sizeLine ∧ (a == sysModules) = false ∧ ∃ vs, KV kvs vs ∧ h.DictOf (mixKind P w) a vs
  | .dT kvs => kvs.length ≤ sizeLine ∧ (a == sysModules) = false ∧ ∃ xs : List (List Key × Addr × Value),
      Paired (fun (p : List Key × V) (q : List Key × Addr × Value) => p.1 = q.1 ∧ H q.2.1 = some (.tup (p.1.map kV)) ∧ RelV p.2 q.2.2) kvs xs ∧
      ∃ o es ep, h.get? a = some o ∧ o.ExactDict ∧ o.data = .dict es ep ∧ es.toList = xs.map (entryOfKey (tupleKind (mixKind P w))) ∧ (xs.map (·.1)).Nodup
  | .set S n => h.SetOf (intKind P w) a S n
  | .ins C dx fs => H dx = some (.own a) ∧ fs.length ≤ 1000 ∧ dx ≠ a ∧ h.get? a = some (PySem.W.instObj C dx) ∧
      ∃ mA, h.Ns1 dx mA ∧ (∀ f, RelO (fs.lookup f) (mA f)) ∧ PySem.Within mA (fs.map (·.1))
  | .own _ => ∃ o, h.get? a = some o
  | .xd fs => ∃ mA, h.Ns1 a mA ∧ ∀ f, RelO (fs.lookup f) (mA f)
  | .rng lo hi => ∃ t u v, h.get? a = some { cls := .type "range", data := .fields #[.int lo t, .int hi u, .int 1 v] }
  | .frz o u => h.get? a = some o ∧ ObjOk H h a u
  | .tbl ps => h.get? a = some { cls := .none, data := .fields ps }
  | .met f x => h.get? a = some (PySem.W.methodObj (.ref f) (.ref x))
  | .ext φ => φ h ∧ (∃ o, h.get? a = some o) ∧ ∀ h1 h2 : Heap, φ h1 → (∀ o, h1.get? a = some o → h2.get? a = some o) → φ h2
/-- the abstract heap is held -/
def HOk (H : Hp) (h : Heap) : Prop := ∀ a o, H a = some o → ObjOk P w H h a o
end

section
variable {P : Program} {w : World} {H H' : Hp} {h h' : Heap} {a : Addr} {o : HO}
theorem ObjOk.lt (x : ObjOk P w H h a o) : a < h.objs.size := by
  cases o with
  | lst xs => obtain ⟨_, _, _, _, e⟩ := x; exact Heap.lt_size e
  | tup xs => obtain ⟨_, _, _, p⟩ := x; exact p.lt
  | dK kvs => obtain ⟨_, _, _, _, o, _, _, e, _⟩ := x; exact Heap.lt_size e
  | dT kvs => obtain ⟨_, _, _, _, o, _, _, e, _⟩ := x; exact Heap.lt_size e
  | set S n => obtain ⟨o, _, _, _, e, _⟩ := x; exact Heap.lt_size e
  | ins C dx fs => obtain ⟨_, _, _, e, _⟩ := x; exact Heap.lt_size e
  | own y => obtain ⟨_, e⟩ := x; exact Heap.lt_size e
  | xd fs => obtain ⟨_, ⟨_, _, _, e, _⟩, _⟩ := x; exact Heap.lt_size e
  | rng lo hi => obtain ⟨_, _, _, e⟩ := x; exact Heap.lt_size e
  | frz ob u => obtain ⟨e, _⟩ := x; exact Heap.lt_size e
  | tbl ps => exact Heap.lt_size (show h.get? a = some _ from x)
  | met f y => exact Heap.lt_size (show h.get? a = some _ from x)
  | ext φ => obtain ⟨_, ⟨_, e⟩, _⟩ := x; exact Heap.lt_size e
theorem Paired.mapP {α β : Type} {F G : α → β → Prop} : ∀ {l₁ : List α} {l₂ : List β}, Paired F l₁ l₂ → (∀ a b, F a b → G a b) → Paired G l₁ l₂
  | _, _, .nil, _ => .nil
  | _, _, .cons r t, f => .cons (f _ _ r) (Paired.mapP t f)
/-- what an object's description leans on: its own object, its own dict, the tuples -/
theorem ObjOk.stay (x : ObjOk P w H h a o) (k : ∀ b u, (b = a ∨ H b = some (.own a)) → h.get? b = some u → h'.get? b = some u)
    (ho : ∀ b, H b = some (.own a) → H' b = some (.own a)) (ht : ∀ b xs, H b = some (.tup xs) → H' b = some (.tup xs)) : ObjOk P w H' h' a o := by
  induction o with
  | lst xs => obtain ⟨z, its, n, r, e⟩ := x; exact ⟨z, its, n, r, k _ _ (.inl rfl) e⟩
  | tup xs => obtain ⟨z, its, r, ob, e, c⟩ := x; exact ⟨z, its, r, ob, k _ _ (.inl rfl) e, c⟩
  | dK kvs => obtain ⟨z, y, vs, r, ob, es, ep, e, c⟩ := x; exact ⟨z, y, vs, r, ob, es, ep, k _ _ (.inl rfl) e, c⟩
  | dT kvs =>
    obtain ⟨z, y, xs, r, ob, es, ep, e, c⟩ := x
    exact ⟨z, y, xs, Paired.mapP r fun p q z => ⟨z.1, ht _ _ z.2.1, z.2.2⟩, ob, es, ep, k _ _ (.inl rfl) e, c⟩
  | set S n => obtain ⟨ob, es, ep, t, e, c⟩ := x; exact ⟨ob, es, ep, t, k _ _ (.inl rfl) e, c⟩
  | ins C dx fs =>
    obtain ⟨d, z, ne, e, mA, ⟨od, es, ep, e2, c⟩, r⟩ := x
    exact ⟨ho _ d, z, ne, k _ _ (.inl rfl) e, mA, ⟨od, es, ep, k _ _ (.inr d) e2, c⟩, r⟩
  | own y => obtain ⟨ob, e⟩ := x; exact ⟨ob, k _ _ (.inl rfl) e⟩
  | xd fs => obtain ⟨mA, ⟨od, es, ep, e, c⟩, r⟩ := x; exact ⟨mA, ⟨od, es, ep, k _ _ (.inl rfl) e, c⟩, r⟩
  | rng lo hi => obtain ⟨t, u, v, e⟩ := x; exact ⟨t, u, v, k _ _ (.inl rfl) e⟩
  | frz ob u ih => obtain ⟨e, q⟩ := x; exact ⟨k _ _ (.inl rfl) e, ih q⟩
  | tbl ps =>
    have e : h.get? a = some { cls := .none, data := .fields ps } := x
    show h'.get? a = some { cls := .none, data := .fields ps }
    exact k a _ (.inl rfl) e
  | met f y =>
    have e : h.get? a = some (PySem.W.methodObj (.ref f) (.ref y)) := x
    show h'.get? a = some (PySem.W.methodObj (.ref f) (.ref y))
    exact k a _ (.inl rfl) e
  | ext φ => obtain ⟨p, ⟨o, e⟩, st⟩ := x; exact ⟨st _ _ p fun o q => k _ _ (.inl rfl) q, ⟨o, k _ _ (.inl rfl) e⟩, st⟩
theorem HOk.lt (x : HOk P w H h) (e : H a = some o) : a < h.objs.size := (x a o e).lt
theorem HOk.fresh (x : HOk P w H h) (e : h.objs.size ≤ a) : H a = none := by
  cases q : H a with
  | none => rfl
  | some u => exact absurd (Nat.lt_of_lt_of_le (x.lt q) e) (Nat.lt_irrefl _)
/-- every object of the heap is kept -/
theorem HOk.kept (x : HOk P w H h) (k : ∀ b u, h.get? b = some u → h'.get? b = some u) : HOk P w H h' := fun a o e =>
  (x a o e).stay (fun b u _ q => k b u q) (fun _ q => q) fun _ _ q => q
/-- a new object is laid and tracked -/
theorem HOk.laid (x : HOk P w H h) (k : ∀ b u, h.get? b = some u → h'.get? b = some u) (hp : h.objs.size ≤ a) (new : ObjOk P w (upd H a o) h' a o) : HOk P w (upd H a o) h' := fun b u e => by
  have hn := x.fresh hp
  by_cases hb : b = a
  · subst hb; rw [upd_same] at e; cases e; exact new
  · rw [upd_ne hb] at e
    exact (x b u e).stay (fun c v _ q => k c v q) (fun c q => by rw [upd_ne (ne_of_none q hn)]; exact q) fun c xs q => by rw [upd_ne (ne_of_none q hn)]; exact q
end

/-- what may be read as u: it is u, or a known u -/
def Rd (H : Hp) (a : Addr) (u : HO) : Prop := H a = some u ∨ ∃ o, H a = some (.frz o u)
theorem Rd.ok {P : Program} {w : World} {H : Hp} {h : Heap} {a : Addr} {u : HO} (r : Rd H a u) (x : HOk P w H h) : ObjOk P w H h a u := by
  rcases r with r | ⟨o, r⟩
  · exact x a u r
  · obtain ⟨_, q⟩ := x a _ r
    exact q
/-- what may be written -/
def Mut : Option HO → Prop
  | some (.lst _) => True
  | some (.dK _) => True
  | some (.dT _) => True
  | some (.set _ _) => True
  | some (.ins _ _ _) => True
  | some (.ext _) => True
  | _ => False
section
variable {P : Program} {w : World} {H : Hp} {h h' : Heap} {x e : Addr} {o' : HO}
/-- the object at e is changed: x itself, or the dict of the instance x -/
theorem HOk.write (ok : HOk P w H h) (mu : Mut (H x)) (he : e = x ∨ H e = some (.own x)) (k : ∀ b u, b ≠ e → h.get? b = some u → h'.get? b = some u) (heo : ∃ u, h'.get? e = some u)
    (new : ObjOk P w (upd H x o') h' x o') : HOk P w (upd H x o') h' := fun b u q => by
  have nown : ∀ c y, H c = some (.own y) → c ≠ x := fun c y r z => by subst z; rw [r] at mu; exact mu
  have ntup : ∀ c xs, H c = some (.tup xs) → c ≠ x := fun c xs r z => by subst z; rw [r] at mu; exact mu
  by_cases hb : b = x
  · subst hb; rw [upd_same] at q; cases q; exact new
  · rw [upd_ne hb] at q
    by_cases hbe : b = e
    · have q' : H b = some (.own x) := by
        rcases he with z | z
        · exact absurd (hbe.trans z) hb
        · rw [hbe]; exact z
      rw [q] at q'; cases q'
      obtain ⟨v, hv⟩ := heo
      exact ⟨v, by rw [hbe]; exact hv⟩
    · refine (ok b u q).stay (fun c v hc r => k c v ?_ r) (fun c r => by rw [upd_ne (nown c b r)]; exact r) fun c xs r => by rw [upd_ne (ntup c xs r)]; exact r
      rcases hc with rfl | hc
      · exact hbe
      · rintro rfl
        rcases he with z | z
        · exact nown c b hc z
        · rw [hc] at z; cases z; exact hb rfl
end

/-! ### kept unless tracked; of the frames at fs (the callers') the slots may change (an exception that passes writes there); of the records at ex (iterators) nothing is said -/
structure Un (fs ex : List Addr) (H H' : Hp) (h h' : Heap) : Prop where
  keep : ∀ b o, h.get? b = some o → H b = none → b ∉ fs → b ∉ ex → h'.get? b = some o
  slot : ∀ b o, h.get? b = some o → H b = none → b ∈ fs → b ∉ ex → ∃ sl, h'.get? b = some { o with slots := sl }
  free : ∀ b o, h.get? b = some o → H b = none → b ∉ ex → H' b = none
  there : ∀ b o, h.get? b = some o → b ∉ ex → ∃ o', h'.get? b = some o'
  tups : ∀ b xs, H b = some (.tup xs) → H' b = some (.tup xs)
  frzs : ∀ b o u, H b = some (.frz o u) → H' b = some (.frz o u)
  tbls : ∀ b ps, H b = some (.tbl ps) → ∃ more, H' b = some (.tbl (ps ++ more))
section
variable {fs fs' ex ex' : List Addr} {H H1 H2 : Hp} {h h1 h2 h' : Heap} {a x e : Addr} {o : HO}
theorem Un.any (u : Un fs ex H H1 h h1) {b : Addr} {ob : Obj} (q : h.get? b = some ob) (n : H b = none) (hx : b ∉ ex) : ∃ sl, h1.get? b = some { ob with slots := sl } := by
  by_cases hb : b ∈ fs
  · exact u.slot b ob q n hb hx
  · exact ⟨ob.slots, u.keep b ob q n hb hx⟩
theorem Un.trans (a : Un fs ex H H1 h h1) (b : Un fs ex H1 H2 h1 h2) : Un fs ex H H2 h h2 where
  keep := fun c ob q n hc hx => b.keep c ob (a.keep c ob q n hc hx) (a.free c ob q n hx) hc hx
  slot := fun c ob q n hc hx => by
    obtain ⟨sl, e1⟩ := a.slot c ob q n hc hx
    obtain ⟨sl', e2⟩ := b.slot c _ e1 (a.free c ob q n hx) hc hx
    exact ⟨sl', e2⟩
  free := fun c ob q n hx => by
    obtain ⟨o', e1⟩ := a.there c ob q hx
    exact b.free c o' e1 (a.free c ob q n hx) hx
  there := fun c ob q hx => by
    obtain ⟨o', e1⟩ := a.there c ob q hx
    exact b.there c o' e1 hx
  tups := fun c xs q => b.tups c xs (a.tups c xs q)
  frzs := fun c ob xs q => b.frzs c ob xs (a.frzs c ob xs q)
  tbls := fun c ps q => by
    obtain ⟨m1, e1⟩ := a.tbls c ps q
    obtain ⟨m2, e2⟩ := b.tbls c _ e1
    exact ⟨m1 ++ m2, by rw [e2, Array.append_assoc]⟩
theorem Un.kept (k : ∀ b u, h.get? b = some u → h'.get? b = some u) : Un fs ex H H h h' :=
  ⟨fun b ob q _ _ _ => k b ob q, fun b ob q _ _ _ => ⟨ob.slots, k b ob q⟩, fun _ _ _ n _ => n, fun b ob q _ => ⟨ob, k b ob q⟩, fun _ _ q => q, fun _ _ _ q => q, fun _ ps q => ⟨#[], by rw [q]; simp⟩⟩
theorem Un.refl : Un fs ex H H h h := Un.kept fun _ _ q => q
theorem Un.laid (k : ∀ b u, h.get? b = some u → h'.get? b = some u) (hp : h.objs.size ≤ a) (hn : H a = none) : Un fs ex H (upd H a o) h h' where
  keep := fun b u q _ _ _ => k b u q
  slot := fun b u q _ _ _ => ⟨u.slots, k b u q⟩
  free := fun b u q n _ => by rw [upd_ne (Nat.ne_of_lt (Nat.lt_of_lt_of_le (Heap.lt_size q) hp))]; exact n
  there := fun b u q _ => ⟨u, k b u q⟩
  tups := fun b xs q => by rw [upd_ne (ne_of_none q hn)]; exact q
  frzs := fun b u xs q => by rw [upd_ne (ne_of_none q hn)]; exact q
  tbls := fun b ps q => ⟨#[], by rw [upd_ne (ne_of_none q hn), q]; simp⟩
theorem Un.write (mu : Mut (H x)) (he : e = x ∨ H e = some (.own x)) (k : ∀ b u, b ≠ e → h.get? b = some u → h'.get? b = some u) (heo : ∃ u, h'.get? e = some u) : Un fs ex H (upd H x o) h h' := by
  have hx : ∀ b, H b = none → b ≠ x := fun b n z => by subst z; rw [n] at mu; exact mu
  have hb : ∀ b, H b = none → b ≠ e := fun b n z => by
    subst z
    rcases he with r | r
    · exact hx b n r
    · rw [n] at r; cases r
  have hm : ∀ b u, H b = some u → ¬ Mut (some u) → b ≠ x := fun b u q nm z => by subst z; rw [q] at mu; exact nm mu
  refine ⟨fun b u q n _ _ => k b u (hb b n) q, fun b u q n _ _ => ⟨u.slots, k b u (hb b n) q⟩, fun b u q n _ => by rw [upd_ne (hx b n)]; exact n, fun b u q _ => ?_,
    fun b xs q => by rw [upd_ne (hm b _ q fun z => z)]; exact q, fun b u xs q => by rw [upd_ne (hm b _ q fun z => z)]; exact q, fun b ps q => ⟨#[], by rw [upd_ne (hm b _ q fun z => z), q]; simp⟩⟩
  by_cases hbe : b = e
  · subst hbe; exact heo
  · exact ⟨u, k b u hbe q⟩
end

/-! ### the heap without what is tracked -/
def trk (h : Heap) (H : Hp) : List Addr := (List.range h.objs.size).filter fun a => (H a).isSome
def hidT (h : Heap) (H : Hp) : Heap := PySem.W.hideAll h (trk h H)
theorem hidT_size (h : Heap) (H : Hp) : (hidT h H).objs.size = h.objs.size := PySem.W.hideAll_size _ _
theorem hidT_get {h : Heap} {H : Hp} {b : Addr} {o : Obj} (e : h.get? b = some o) (n : H b = none) : (hidT h H).get? b = some o :=
  PySem.W.hideAll_get _ e fun hm => by
    have q : (H b).isSome = true := (List.mem_filter.mp hm).2
    rw [n] at q; simp at q
theorem of_hidT {h : Heap} {H : Hp} {b : Addr} {o : Obj} (e : (hidT h H).get? b = some o) : h.get? b = some o ∧ H b = none := by
  have e' : h.get? b = some o := PySem.W.of_hideAll (trk h H) e
  refine ⟨e', ?_⟩
  cases q : H b with
  | none => rfl
  | some x =>
    have hm : b ∈ trk h H := List.mem_filter.mpr ⟨List.mem_range.mpr (Heap.lt_size e'), by simp [q]⟩
    have z : (hidT h H).get? b = none := PySem.W.hideAll_none (trk h H) hm
    rw [z] at e; cases e

/-! ### OpenK's ledger, filled with every new object but one -/
end L2

namespace L2
open PySem PySem.Spec PyProof.Rows

/-- the module's facts, over the base: the heap at the law's entry without what is tracked there -/
structure Mod (K : PySem.W.Frag) (mg : Str → Option Value) (base : Heap) : Prop where
  kin : K.In base
  glob : base.Ns mainGlobals mg
  blt : ∃ mb, base.Ns builtinsNs mb ∧ ∀ x : Str, x ≠ "__name__" → mb x = bootBuiltins x
  nolimit : base.NoLimit

/-- the context: a def's body (or a comprehension's block) running. base: fixed through the whole law; s₀, H₀: the entry; outer: the frames whose slots others may change (a def's callers); stack: all frames that run;
   ex: iterators that were made ahead of the entry and are walked here (a comprehension's); fn: the names whose cells were made at the entry (a def: all; a comprehension's block: its own); calm: not within an except suite; pn: pins that every state bears; xe: what is wanted of an exception that leaves the code -/
structure Cx where
  prog : Program
  w : World
  K : PySem.W.Frag
  mg : Str → Option Value
  base : Heap
  A : Around
  N : List Str
  s₀ : Shared
  H₀ : Hp
  env : Env
  outer : List Env
  stack : List Env
  ex : List Addr
  fn : Str → Bool
  calm : Bool
  pn : List (Addr × Obj)
  xe : Value → Shared → Prop
/-- the callers' frames -/
def frs (l : List Env) : List Addr := l.filterMap (·.frame)
abbrev Cx.fs (X : Cx) : List Addr := frs X.outer

def Vis (sc : Scope) (x : Str) : Prop := sc.names.lookup x = some .local ∨ sc.names.lookup x = some .cell ∨ sc.names.lookup x = some .free
def Loc (sc : Scope) (x : Str) : Prop := sc.names.lookup x = some .local ∨ sc.names.lookup x = some .cell
def Look (env : Env) (h : Heap) (m : Str → Option Value) (x : Str) (u : Value) : Prop :=
  (env.kindOf x = some .local ∧ m x = some u) ∨ ((env.kindOf x = some .cell ∨ env.kindOf x = some .free) ∧ ∃ c, env.cells.lookup x = some c ∧ h.IsCell c (some u))

structure Cx.Ok (X : Cx) : Prop where
  mod : Mod X.K X.mg X.base
  kind : X.env.scope.kind = .function
  glob : X.env.globals = mainGlobals
  blt : X.env.builtins = builtinsNs
  above : X.s₀.heap.objs.size ≤ X.env.locals
  inj : ∀ x y c, X.env.cells.lookup x = some c → X.env.cells.lookup y = some c → x = y
  has : ∀ x, (X.env.kindOf x = some .cell ∨ X.env.kindOf x = some .free) → ∃ c, X.env.cells.lookup x = some c
  cab : ∀ x c, X.fn x = true → X.env.cells.lookup x = some c → X.s₀.heap.objs.size ≤ c
  hd : X.calm = true → X.A.handled = none
  frames : X.A.frames = some X.stack
  stk : X.stack = X.outer ∨ (X.stack = X.env :: X.outer ∧ X.env.frame = some X.env.locals)
  exf : ∀ b ∈ X.ex, b ≠ X.env.locals ∧ ∀ x c, X.env.cells.lookup x = some c → c ≠ b
  bs : ∀ b o, X.base.get? b = some o → X.s₀.heap.get? b = some o ∧ X.H₀ b = none
  bsz : X.base.objs.size ≤ X.s₀.heap.objs.size
  noex : ∀ b o, X.base.get? b = some o → b ∉ X.ex
  exfs : ∀ b ∈ X.ex, b ∉ X.fs
  funs : X.s₀.heap.FunFrames X.base X.outer
  frf : ∀ b ∈ X.fs, X.H₀ b = none

structure Inv (X : Cx) (pins : List (Addr × Obj)) (σ : List (Option V)) (H : Hp) (s : Shared) : Prop where
  ok : X.Ok
  os : s.os = X.s₀.os
  bare : AllBare s.gens
  base : Un X.fs X.ex X.H₀ H X.s₀.heap s.heap
  loc : ∃ m, s.heap.Ns X.env.locals m ∧ ∀ (i : Nat) (x : Str) (v : V), X.N[i]? = some x → σ[i]? = some (some v) → Vis X.env.scope x → ∃ u, RelV v u ∧ Look X.env s.heap m x u
  cell : ∀ x c, X.env.cells.lookup x = some c → ∃ v, s.heap.IsCell c v
  free : H X.env.locals = none
  freeC : ∀ x c, X.env.cells.lookup x = some c → H c = none
  pin : ∀ p ∈ X.pn ++ pins, s.heap.get? p.1 = some p.2 ∧ H p.1 = none ∧ p.1 ≠ X.env.locals ∧ p.1 ∉ X.fs ∧ ∀ v, p.2.data ≠ .cell v
  hok : HOk X.prog X.w H s.heap
  len : σ.length = X.N.length

section
variable {X : Cx} {pins : List (Addr × Obj)} {σ : List (Option V)} {H H' : Hp} {s : Shared} {h' : Heap}

theorem Cx.Ok.nofr (ok : X.Ok) {b : Addr} {o : Obj} (e : X.base.get? b = some o) : b ∉ X.fs := fun hb => by
  have := (ok.funs.mem hb).1
  rw [e] at this; cases this
theorem Inv.bs (I : Inv X pins σ H s) : ∀ b o, X.base.get? b = some o → s.heap.get? b = some o ∧ H b = none := fun b o e =>
  ⟨I.base.keep b o (I.ok.bs b o e).1 (I.ok.bs b o e).2 (I.ok.nofr e) (I.ok.noex b o e), I.base.free b o (I.ok.bs b o e).1 (I.ok.bs b o e).2 (I.ok.noex b o e)⟩
theorem Inv.bk (I : Inv X pins σ H s) : ∀ b o, X.base.get? b = some o → s.heap.get? b = some o := fun b o e => (I.bs b o e).1
theorem Inv.mod (I : Inv X pins σ H s) : Mod X.K X.mg X.base := I.ok.mod
theorem Inv.kIn (I : Inv X pins σ H s) : X.K.In s.heap := I.ok.mod.kin.keeps I.bk
theorem Inv.lt (I : Inv X pins σ H s) : X.env.locals < s.heap.objs.size := let ⟨_, hn, _⟩ := I.loc; hn.lt
theorem Inv.sz (I : Inv X pins σ H s) : X.s₀.heap.objs.size ≤ s.heap.objs.size := Nat.le_trans I.ok.above (Nat.le_of_lt I.lt)
theorem Inv.nofs (I : Inv X pins σ H s) {a : Addr} (h : s.heap.objs.size ≤ a) : a ∉ X.fs := fun hb => by
  obtain ⟨_, o, ho, _⟩ := I.ok.funs.mem hb
  exact absurd (Nat.lt_of_lt_of_le (Heap.lt_size ho) (Nat.le_trans I.sz h)) (Nat.lt_irrefl _)
theorem Inv.cne (I : Inv X pins σ H s) : ∀ x c, X.env.cells.lookup x = some c → c ≠ X.env.locals := fun x c e z => by
  obtain ⟨v, o, ho, hd⟩ := I.cell x c e
  obtain ⟨m, ⟨o', es, ep, ho', hd', _⟩, _⟩ := I.loc
  rw [z, ho'] at ho; cases ho; rw [hd'] at hd; cases hd
theorem Inv.funs (I : Inv X pins σ H s) : s.heap.FunFrames X.base X.outer := by
  have all : ∀ (l : List Env), (∀ b ∈ frs l, b ∈ X.fs) → X.s₀.heap.FunFrames X.base l → s.heap.FunFrames X.base l := by
    intro l
    induction l with
    | nil => intro _ _; trivial
    | cons env r ih =>
      intro hs hl
      obtain ⟨hk, ⟨L, o, hf, hn, ho, hd⟩, hr⟩ := hl
      have hL : L ∈ X.fs := hs L (by unfold frs; rw [List.filterMap_cons, hf]; exact List.mem_cons_self)
      obtain ⟨sl, e⟩ := I.base.slot L o ho (I.ok.frf L hL) hL fun z => I.ok.exfs L z hL
      exact ⟨hk, ⟨L, _, hf, hn, e, hd⟩, ih (fun b hb => hs b (by unfold frs; rw [List.filterMap_cons, hf]; exact List.mem_cons_of_mem _ hb)) hr⟩
  exact all X.outer (fun _ hb => hb) I.ok.funs

/-- the frames that run, for a call -/
theorem Inv.stack (I : Inv X pins σ H s) : s.heap.FunFrames X.base X.stack := by
  rcases I.ok.stk with e | ⟨e, hf⟩
  · rw [e]; exact I.funs
  · rw [e]
    obtain ⟨m, hn, _⟩ := I.loc
    refine .cons (by rw [I.ok.kind]; decide) hf hn ?_ I.funs
    exact Heap.get?_none_of_le (Nat.le_trans I.ok.bsz I.ok.above)
theorem Inv.stkSub (I : Inv X pins σ H s) : ∀ b ∈ frs X.stack, b ∈ X.env.locals :: X.fs := fun b hb => by
  rcases I.ok.stk with e | ⟨e, hf⟩
  · rw [e] at hb; exact List.mem_cons_of_mem _ hb
  · rw [e] at hb
    unfold frs at hb
    rw [List.filterMap_cons, hf] at hb
    exact hb
theorem Inv.stkFree (I : Inv X pins σ H s) : ∀ b ∈ frs X.stack, H b = none := fun b hb => by
  rcases List.mem_cons.mp (I.stkSub b hb) with e | hb
  · rw [e]; exact I.free
  · obtain ⟨_, o, ho, _⟩ := I.ok.funs.mem hb
    exact I.base.free b o ho (I.ok.frf b hb) fun z => I.ok.exfs b z hb

/-- THE STEP: the untracked objects but the frame and the records at ch are kept (the callers' frames up to slots), the frame's map is kept, the new abstract heap is held -/
theorem Inv.step {g' : Array GenState} {t' : Nat} {d' : Drawn} {ch : List Addr} (I : Inv X pins σ H s)
    (hch : ∀ b ∈ ch, (b ∈ X.ex ∨ X.s₀.heap.objs.size ≤ b) ∧ b ≠ X.env.locals ∧ (∀ x c, X.env.cells.lookup x = some c → c ≠ b) ∧ ∀ p ∈ X.pn ++ pins, p.1 ≠ b)
    (keep : ∀ b o, b ≠ X.env.locals → b ∉ X.fs → b ∉ ch → s.heap.get? b = some o → H b = none → h'.get? b = some o)
    (slot : ∀ b o, b ≠ X.env.locals → b ∈ X.fs → b ∉ ch → s.heap.get? b = some o → H b = none → ∃ sl, h'.get? b = some { o with slots := sl }) (free : ∀ b o, b ∉ ch → s.heap.get? b = some o → H b = none → H' b = none)
    (there : ∀ b o, b ∉ ch → s.heap.get? b = some o → ∃ o', h'.get? b = some o')
    (tups : ∀ b xs, H b = some (.tup xs) → H' b = some (.tup xs)) (frzs : ∀ b o u, H b = some (.frz o u) → H' b = some (.frz o u)) (tbls : ∀ b ps, H b = some (.tbl ps) → ∃ more, H' b = some (.tbl (ps ++ more)))
    (ns : ∀ m, s.heap.Ns X.env.locals m → h'.Ns X.env.locals m) (hok : HOk X.prog X.w H' h') (hg : AllBare g') :
    Inv X pins σ H' { s with heap := h', gens := g', drawn := d', toks := t' } := by
  have neL : ∀ b o, X.s₀.heap.get? b = some o → b ≠ X.env.locals := fun b o e => Nat.ne_of_lt (Nat.lt_of_lt_of_le (Heap.lt_size e) I.ok.above)
  have neC : ∀ b o, X.s₀.heap.get? b = some o → b ∉ X.ex → b ∉ ch := fun b o e hx hb => by
    rcases (hch b hb).1 with z | z
    · exact hx z
    · exact absurd (Nat.lt_of_lt_of_le (Heap.lt_size e) z) (Nat.lt_irrefl _)
  have cellK : ∀ x c, X.env.cells.lookup x = some c → ∀ v, s.heap.IsCell c v → h'.IsCell c v := fun x c e v ⟨o, ho, hd⟩ => by
    have nch : c ∉ ch := fun z => (hch c z).2.2.1 x c e rfl
    by_cases hc : c ∈ X.fs
    · obtain ⟨sl, q⟩ := slot c o (I.cne x c e) hc nch ho (I.freeC x c e)
      exact ⟨_, q, hd⟩
    · exact ⟨o, keep c o (I.cne x c e) hc nch ho (I.freeC x c e), hd⟩
  refine ⟨I.ok, I.os, hg, ⟨fun b o e n hb hx => ?_, fun b o e n hb hx => ?_, fun b o e n hx => ?_, fun b o e hx => ?_, fun b xs e => tups b xs (I.base.tups b xs e), fun b o xs e => frzs b o xs (I.base.frzs b o xs e), fun b ps e => ?_⟩, ?_, fun x c e => ?_, ?_, fun x c e => ?_, fun p hp => ?_, hok, I.len⟩
  · exact keep b o (neL b o e) hb (neC b o e hx) (I.base.keep b o e n hb hx) (I.base.free b o e n hx)
  · obtain ⟨sl, e1⟩ := I.base.slot b o e n hb hx
    obtain ⟨sl', e2⟩ := slot b _ (neL b o e) hb (neC b o e hx) e1 (I.base.free b o e n hx)
    exact ⟨sl', e2⟩
  · obtain ⟨o', e1⟩ := I.base.there b o e hx
    exact free b o' (neC b o e hx) e1 (I.base.free b o e n hx)
  · obtain ⟨o', e1⟩ := I.base.there b o e hx
    exact there b o' (neC b o e hx) e1
  · obtain ⟨m1, e1⟩ := I.base.tbls b ps e
    obtain ⟨m2, e2⟩ := tbls b _ e1
    exact ⟨m1 ++ m2, by rw [e2, Array.append_assoc]⟩
  · obtain ⟨m, hn, hl⟩ := I.loc
    refine ⟨m, ns m hn, fun i x v e1 e2 e3 => ?_⟩
    obtain ⟨u, r, l⟩ := hl i x v e1 e2 e3
    refine ⟨u, r, ?_⟩
    rcases l with l | ⟨k, c, e, z⟩
    · exact .inl l
    · exact .inr ⟨k, c, e, cellK x c e _ z⟩
  · obtain ⟨v, z⟩ := I.cell x c e
    exact ⟨v, cellK x c e v z⟩
  · obtain ⟨m, ⟨o, _, _, ho, _⟩, _⟩ := I.loc
    exact free _ o (fun z => (hch _ z).2.1 rfl) ho I.free
  · obtain ⟨v, o, ho, hd⟩ := I.cell x c e
    exact free c o (fun z => (hch c z).2.2.1 x c e rfl) ho (I.freeC x c e)
  · obtain ⟨e, n, ne, nf, d⟩ := I.pin p hp
    have nch : p.1 ∉ ch := fun z => (hch p.1 z).2.2.2 p hp rfl
    exact ⟨keep p.1 p.2 ne nf nch e n, free p.1 p.2 nch e n, ne, nf, d⟩
/-- .. where the frame's own object is kept too -/
theorem Inv.un {t' : Nat} (I : Inv X pins σ H s) (u : Un X.fs [] H H' s.heap h') (hok : HOk X.prog X.w H' h') : Inv X pins σ H' { s with heap := h', toks := t' } := by
  obtain ⟨m, ⟨o, es, ep, ho, r⟩, _⟩ := id I.loc
  obtain ⟨sl, hL⟩ := u.any ho I.free (by simp)
  exact I.step (g' := s.gens) (d' := s.drawn) (ch := []) (fun _ z => nomatch z) (fun b o _ hb _ e n => u.keep b o e n hb (by simp)) (fun b o _ hb _ e n => u.slot b o e n hb (by simp)) (fun b o _ e n => u.free b o e n (by simp)) (fun b o _ e => u.there b o e (by simp)) u.tups u.frzs u.tbls (fun m' hm => by
    obtain ⟨o', es', ep', ho', r'⟩ := hm
    rw [ho] at ho'; cases ho'
    exact ⟨_, es', ep', hL, r'⟩) hok I.bare
/-- behind a call (or a comprehension's block): the slots of this frame may have changed too, the records at ch may have turned -/
theorem Inv.call {g' : Array GenState} {t' : Nat} {d' : Drawn} {ch : List Addr} (I : Inv X pins σ H s) (u : Un (frs X.stack) ch H H' s.heap h') (hok : HOk X.prog X.w H' h') (hg : AllBare g')
    (hch : ∀ b ∈ ch, (b ∈ X.ex ∨ X.s₀.heap.objs.size ≤ b) ∧ b ≠ X.env.locals ∧ (∀ x c, X.env.cells.lookup x = some c → c ≠ b) ∧ ∀ p ∈ X.pn ++ pins, p.1 ≠ b) :
    Inv X pins σ H' { s with heap := h', gens := g', drawn := d', toks := t' } := by
  obtain ⟨m, ⟨o, es, ep, ho, r⟩, _⟩ := id I.loc
  obtain ⟨sl, hL⟩ := u.any ho I.free fun z => (hch _ z).2.1 rfl
  exact I.step (ch := ch) hch (fun b o hL hb hc e n => u.keep b o e n (fun z => (List.mem_cons.mp (I.stkSub b z)).elim hL hb) hc) (fun b o _ _ hc e n => u.any e n hc) (fun b o hc e n => u.free b o e n hc) (fun b o hc e => u.there b o e hc) u.tups u.frzs u.tbls (fun m' hm => by
    obtain ⟨o', es', ep', ho', r'⟩ := hm
    rw [ho] at ho'; cases ho'
    exact ⟨_, es', ep', hL, r'⟩) hok hg
/-- an untracked record of ours (an iterator) has turned -/
theorem Inv.turned {t' : Nat} {it : Addr} (I : Inv X pins σ H s) (k : ∀ b o, b ≠ it → s.heap.get? b = some o → h'.get? b = some o) (hn : H it = none) (hL : it ≠ X.env.locals)
    (h1 : it ∈ X.ex ∨ X.s₀.heap.objs.size ≤ it) (h2 : ∀ x c, X.env.cells.lookup x = some c → c ≠ it) (h3 : ∀ p ∈ X.pn ++ pins, p.1 ≠ it) : Inv X pins σ H { s with heap := h', toks := t' } := by
  have nit : ∀ b u, H b = some u → b ≠ it := fun b u e z => by rw [z, hn] at e; cases e
  refine I.step (g' := s.gens) (d' := s.drawn) (ch := [it]) (fun b hb => ?_) (fun b o _ _ hc e _ => k b o (fun z => hc (by simp [z])) e) (fun b o _ _ hc e _ => ⟨o.slots, k b o (fun z => hc (by simp [z])) e⟩) (fun _ _ _ _ n => n)
    (fun b o hc e => ⟨o, k b o (fun z => hc (by simp [z])) e⟩) (fun _ _ e => e) (fun _ _ _ e => e) (fun b ps e => ⟨#[], by rw [e]; simp⟩) (fun m hm => ?_) (fun b u e => ?_) I.bare
  · have e : b = it := by simpa using hb
    subst e
    exact ⟨h1, hL, h2, h3⟩
  · obtain ⟨o, es, ep, ho, r⟩ := hm
    exact ⟨o, es, ep, k _ o (Ne.symm hL) ho, r⟩
  · refine (I.hok b u e).stay (fun c v hc q => k c v ?_ q) (fun _ q => q) fun _ _ q => q
    rcases hc with z | z
    · rw [z]; exact nit b u e
    · exact nit c _ z
theorem Inv.tok (I : Inv X pins σ H s) (t : Nat) : Inv X pins σ H { s with toks := t } := I.un (h' := s.heap) (t' := t) Un.refl I.hok
/-- all objects kept -/
theorem Inv.kept {t' : Nat} (I : Inv X pins σ H s) (k : ∀ b u, s.heap.get? b = some u → h'.get? b = some u) : Inv X pins σ H { s with heap := h', toks := t' } := I.un (Un.kept k) (I.hok.kept k)
/-- a new object laid and tracked -/
theorem Inv.laid {a : Addr} {o : HO} {t' : Nat} (I : Inv X pins σ H s) (k : ∀ b u, s.heap.get? b = some u → h'.get? b = some u) (hp : s.heap.objs.size ≤ a) (new : ObjOk X.prog X.w (upd H a o) h' a o) :
    Inv X pins σ (upd H a o) { s with heap := h', toks := t' } := I.un (Un.laid k hp (I.hok.fresh hp)) (I.hok.laid k hp new)
/-- an object written -/
theorem Inv.write {x e : Addr} {o : HO} {t' : Nat} (I : Inv X pins σ H s) (mu : Mut (H x)) (he : e = x ∨ H e = some (.own x)) (k : ∀ b u, b ≠ e → s.heap.get? b = some u → h'.get? b = some u) (heo : ∃ u, h'.get? e = some u)
    (new : ObjOk X.prog X.w (upd H x o) h' x o) : Inv X pins σ (upd H x o) { s with heap := h', toks := t' } := I.un (Un.write mu he k heo) (I.hok.write mu he k heo new)
theorem Inv.pins_of {pins' : List (Addr × Obj)} (I : Inv X pins σ H s) (h : ∀ p ∈ pins', s.heap.get? p.1 = some p.2 ∧ H p.1 = none ∧ p.1 ≠ X.env.locals ∧ p.1 ∉ X.fs ∧ ∀ v, p.2.data ≠ .cell v) : Inv X pins' σ H s :=
  ⟨I.ok, I.os, I.bare, I.base, I.loc, I.cell, I.free, I.freeC, fun p hp => (List.mem_append.mp hp).elim (fun z => I.pin p (List.mem_append_left _ z)) (h p), I.hok, I.len⟩

theorem nodup_ix {N : List Str} (hN : N.Nodup) {i j : Nat} {x : Str} (a : N[i]? = some x) (b : N[j]? = some x) : i = j := by
  obtain ⟨h1, e1⟩ := List.getElem?_eq_some_iff.mp a
  obtain ⟨h2, e2⟩ := List.getElem?_eq_some_iff.mp b
  exact (List.getElem_inj hN).mp (e1.trans e2.symm)

/-- a name is stored; what changed -/
theorem store_ok2 {M : Model} {A : Around} {E : Value → Shared → Prop} {i : Nat} {x : Str} {v : V} {u : Value} {Q : Unit → Shared → Prop} (I : Inv X pins σ H s) (hN : X.N.Nodup) (hi : X.N[i]? = some x) (hx : Loc X.env.scope x) (r : RelV v u)
    (h : ∀ s', Inv X pins (σ.set i (some v)) H s' → (∃ a, Heap.SameBut a s.heap s'.heap ∧ (a = X.env.locals ∨ X.env.cells.lookup x = some a)) → Q () s') (hf : X.fn x = true ∨ X.env.scope.names.lookup x = some .local := by first | exact .inl rfl | exact .inr rfl | assumption) : wpAny M A (storeName X.env x u) Q E s := by
  obtain ⟨m, hn, hl⟩ := id I.loc
  have hcls : (X.env.scope.kind == .class || (X.env.scope.kind == .module && X.env.locals != X.env.globals)) = false := by rw [I.ok.kind]; rfl
  have hiσ : i < σ.length := by rw [I.len]; exact (List.getElem?_eq_some_iff.mp hi).1
  have cne := I.cne
  have tracked : ∀ {a : Addr} {h' : Heap}, (∃ o, s.heap.get? a = some o ∧ H a = none) → Heap.SameBut a s.heap h' → HOk X.prog X.w H h' := fun {a h'} ha hs b ob e => by
    obtain ⟨_, _, hfree⟩ := ha
    refine (I.hok b ob e).stay (fun c w' hc q => (hs.2 c ?_).trans q) (fun _ q => q) fun _ _ q => q
    rintro rfl
    rcases hc with rfl | hc
    · rw [hfree] at e; cases e
    · rw [hfree] at hc; cases hc
  rcases hx with hk | hk
  · refine wpAny_storeName_local hk hn (fun h' hn' hs => ?_) hcls
    obtain ⟨oL, _, _, hoL, _⟩ := id hn
    refine h _ ⟨I.ok, I.os, I.bare, ⟨fun b o e n hb hx => ?_, fun b o e n hb hx => ?_, I.base.free, fun b o e hx => ?_, I.base.tups, I.base.frzs, I.base.tbls⟩, ⟨_, hn', fun j y v' e1 e2 e3 => ?_⟩, fun y c e => ?_, I.free, I.freeC, fun p hp => ?_, tracked ⟨oL, hoL, I.free⟩ hs, by simpa using I.len⟩ ⟨_, hs, .inl rfl⟩
    · exact (hs.2 b (Nat.ne_of_lt (Nat.lt_of_lt_of_le (Heap.lt_size e) I.ok.above))).trans (I.base.keep b o e n hb hx)
    · obtain ⟨sl, e1⟩ := I.base.slot b o e n hb hx
      exact ⟨sl, (hs.2 b (Nat.ne_of_lt (Nat.lt_of_lt_of_le (Heap.lt_size e) I.ok.above))).trans e1⟩
    · obtain ⟨o', e1⟩ := I.base.there b o e hx
      exact ⟨o', (hs.2 b (Nat.ne_of_lt (Nat.lt_of_lt_of_le (Heap.lt_size e) I.ok.above))).trans e1⟩
    · by_cases hj : j = i
      · subst hj
        rw [hi] at e1; cases e1
        rw [List.getElem?_set_self hiσ] at e2
        cases e2
        exact ⟨u, r, .inl ⟨hk, by simp⟩⟩
      · rw [List.getElem?_set_ne (Ne.symm hj)] at e2
        obtain ⟨u', r', q⟩ := hl j y v' e1 e2 e3
        refine ⟨u', r', ?_⟩
        rcases q with ⟨k, e⟩ | ⟨k, c, e, z⟩
        · refine .inl ⟨k, ?_⟩
          have : y ≠ x := fun e => hj (nodup_ix hN e1 (e ▸ hi))
          simp [this, e]
        · exact .inr ⟨k, c, e, z.sameBut hs (cne y c e)⟩
    · obtain ⟨w', z⟩ := I.cell y c e
      exact ⟨w', z.sameBut hs (cne y c e)⟩
    · obtain ⟨e, n, ne, nf, d⟩ := I.pin p hp
      exact ⟨(hs.2 p.1 ne).trans e, n, ne, nf, d⟩
  · have hfn : X.fn x = true := by
      rcases hf with z | z
      · exact z
      · rw [z] at hk; cases hk
    obtain ⟨c, hc⟩ := I.ok.has x (.inl hk)
    obtain ⟨w', z⟩ := I.cell x c hc
    refine wpAny_storeName_cell I.ok.kind hk hc z (fun h' hc' hs => ?_)
    obtain ⟨oc, hoc, hocd⟩ := id z
    refine h { s with heap := h' } ⟨I.ok, I.os, I.bare, ⟨fun b o e n hb hx => ?_, fun b o e n hb hx => ?_, I.base.free, fun b o e hx => ?_, I.base.tups, I.base.frzs, I.base.tbls⟩, ⟨m, hn.sameBut hs (Ne.symm (cne x c hc)), fun j y v' e1 e2 e3 => ?_⟩, fun y c' e => ?_, I.free, I.freeC, fun p hp => ?_, tracked ⟨oc, hoc, I.freeC x c hc⟩ hs, by simpa using I.len⟩ ⟨c, hs, .inr hc⟩
    · exact (hs.2 b (Nat.ne_of_lt (Nat.lt_of_lt_of_le (Heap.lt_size e) (I.ok.cab x c hfn hc)))).trans (I.base.keep b o e n hb hx)
    · obtain ⟨sl, e1⟩ := I.base.slot b o e n hb hx
      exact ⟨sl, (hs.2 b (Nat.ne_of_lt (Nat.lt_of_lt_of_le (Heap.lt_size e) (I.ok.cab x c hfn hc)))).trans e1⟩
    · obtain ⟨o', e1⟩ := I.base.there b o e hx
      exact ⟨o', (hs.2 b (Nat.ne_of_lt (Nat.lt_of_lt_of_le (Heap.lt_size e) (I.ok.cab x c hfn hc)))).trans e1⟩
    · by_cases hj : j = i
      · subst hj
        rw [hi] at e1; cases e1
        rw [List.getElem?_set_self hiσ] at e2
        cases e2
        exact ⟨u, r, .inr ⟨.inl hk, c, hc, hc'⟩⟩
      · rw [List.getElem?_set_ne (Ne.symm hj)] at e2
        obtain ⟨u', r', q⟩ := hl j y v' e1 e2 e3
        refine ⟨u', r', ?_⟩
        rcases q with q | ⟨k, c', e, z'⟩
        · exact .inl q
        · refine .inr ⟨k, c', e, z'.sameBut hs ?_⟩
          rintro rfl
          exact hj (nodup_ix hN e1 (I.ok.inj _ _ _ e hc ▸ hi))
    · by_cases hcc : c' = c
      · subst hcc; exact ⟨_, hc'⟩
      · obtain ⟨w2, z2⟩ := I.cell y c' e
        exact ⟨w2, z2.sameBut hs hcc⟩
    · obtain ⟨e, n, ne, nf, d⟩ := I.pin p hp
      refine ⟨(hs.2 p.1 ?_).trans e, n, ne, nf, d⟩
      intro q
      rw [q, hoc] at e
      have q' : oc = p.2 := Option.some.inj e
      exact d w' (by rw [← q']; exact hocd)
theorem store_ok {M : Model} {A : Around} {E : Value → Shared → Prop} {i : Nat} {x : Str} {v : V} {u : Value} {Q : Unit → Shared → Prop} (I : Inv X pins σ H s) (hN : X.N.Nodup) (hi : X.N[i]? = some x) (hx : Loc X.env.scope x) (r : RelV v u)
    (h : ∀ s', Inv X pins (σ.set i (some v)) H s' → Q () s') (hf : X.fn x = true ∨ X.env.scope.names.lookup x = some .local := by first | exact .inl rfl | exact .inr rfl | assumption) : wpAny M A (storeName X.env x u) Q E s :=
  store_ok2 I hN hi hx r (fun s' I' _ => h s' I') hf
/-- behind a call or a block, the state as it is -/
theorem Inv.call' {s' : Shared} {ch : List Addr} (I : Inv X pins σ H s) (ho : s'.os = s.os) (u : Un (frs X.stack) ch H H' s.heap s'.heap) (hok : HOk X.prog X.w H' s'.heap) (hg : AllBare s'.gens)
    (hch : ∀ b ∈ ch, (b ∈ X.ex ∨ X.s₀.heap.objs.size ≤ b) ∧ b ≠ X.env.locals ∧ (∀ x c, X.env.cells.lookup x = some c → c ≠ b) ∧ ∀ p ∈ X.pn ++ pins, p.1 ≠ b) : Inv X pins σ H' s' := by
  obtain ⟨h', g', d', t', o'⟩ := s'
  have e : o' = s.os := ho
  subst e
  exact I.call (g' := g') (t' := t') (d' := d') u hok hg hch
end

/-! ### the judgements -/
/-- an exception: its class, its own dict's address (where it has one), the abstract heap behind it -/
abbrev XK := Value → Option Addr → Hp → Prop
abbrev St := List (Option V)
abbrev VK := V → Hp → Prop
/-- an expression's reading; a test's; an argument list's -/
abbrev TE := St → Hp → VK → Prop
abbrev TT := St → Hp → (Bool → Hp → Prop) → Prop
abbrev TA := St → Hp → (List V → Hp → Prop) → Prop
/-- what is wanted behind a statement -/
structure Ends where
  nx : St → Hp → Prop
  rt : VK
  bk : St → Hp → Prop := fun _ _ => False
  ct : St → Hp → Prop := fun _ _ => False
abbrev TS := Ends → St → Hp → Prop

def EP (X : Cx) (pins : List (Addr × Obj)) (σ : St) (Q : VK) (u : Value) (s' : Shared) : Prop := ∃ v H', Inv X pins σ H' s' ∧ RelV v u ∧ Q v H'
def TP (X : Cx) (pins : List (Addr × Obj)) (σ : St) (Q : Bool → Hp → Prop) (b : Bool) (s' : Shared) : Prop := ∃ H', Inv X pins σ H' s' ∧ Q b H'
def AP (X : Cx) (pins : List (Addr × Obj)) (σ : St) (Q : List V → Hp → Prop) (us : List Value) (s' : Shared) : Prop := ∃ vs H', Inv X pins σ H' s' ∧ Vals vs us ∧ Q vs H'
def SP (X : Cx) (pins : List (Addr × Obj)) (D : Ends) (f : Flow) (s' : Shared) : Prop :=
  match f with
  | .next => ∃ σ' H', Inv X pins σ' H' s' ∧ D.nx σ' H'
  | .brk => ∃ σ' H', Inv X pins σ' H' s' ∧ D.bk σ' H'
  | .cont => ∃ σ' H', Inv X pins σ' H' s' ∧ D.ct σ' H'
  | .ret u => ∃ v σ' H', Inv X pins σ' H' s' ∧ RelV v u ∧ D.rt v H'

def PE (X : Cx) (e : Expr) (t : TE) : Prop :=
  ∀ (pins : List (Addr × Obj)) (s : Shared) (σ : St) (H : Hp) (Q : VK), Inv X pins σ H s → t σ H Q → wpAny (model X.prog X.w) X.A (eval e X.env) (EP X pins σ Q) X.xe s
def PT (X : Cx) (e : Expr) (t : TT) : Prop :=
  ∀ (pins : List (Addr × Obj)) (s : Shared) (σ : St) (H : Hp) (Q : Bool → Hp → Prop), Inv X pins σ H s → t σ H Q → wpAny (model X.prog X.w) X.A (isTrue e X.env (eval e X.env)) (TP X pins σ Q) X.xe s
/-- a test whatever its 'whole' is (and, or) -/
def PW (X : Cx) (e : Expr) (t : TT) : Prop :=
  ∀ (whole : Sem Value) (pins : List (Addr × Obj)) (s : Shared) (σ : St) (H : Hp) (Q : Bool → Hp → Prop), Inv X pins σ H s → t σ H Q → wpAny (model X.prog X.w) X.A (isTrue e X.env whole) (TP X pins σ Q) X.xe s
theorem PW.pt {X : Cx} {e : Expr} {t : TT} (h : PW X e t) : PT X e t := h _
/-- an argument list (no star), from the left -/
def PA (X : Cx) (es : List Expr) (t : TA) : Prop :=
  ∀ (pos : Pos) (pins : List (Addr × Obj)) (s : Shared) (σ : St) (H : Hp) (Q : List V → Hp → Prop), Inv X pins σ H s → t σ H Q → wpAny (model X.prog X.w) X.A (spliced (backTo pos (starEach es X.env))) (AP X pins σ Q) X.xe s
def PS (X : Cx) (st : Stmt) (t : TS) : Prop :=
  ∀ (pins : List (Addr × Obj)) (s : Shared) (σ : St) (H : Hp) (D : Ends), Inv X pins σ H s → t D σ H → wpAny (model X.prog X.w) X.A (exec st X.env) (SP X pins D) X.xe s
def PSs (X : Cx) (st : List Stmt) (t : TS) : Prop :=
  ∀ (pins : List (Addr × Obj)) (s : Shared) (σ : St) (H : Hp) (D : Ends), Inv X pins σ H s → t D σ H → wpAny (model X.prog X.w) X.A (execs st X.env) (SP X pins D) X.xe s
/-- weaken the end -/
theorem thn {α : Type} {t : Sem α} {Q Q' : α → Shared → Prop} {M : Model} {A : Around} {E : Value → Shared → Prop} {s : Shared} (h : wpAny M A t Q E s) (hQ : ∀ a s, Q a s → Q' a s) : wpAny M A t Q' E s := wpAny_mono h hQ fun _ _ x => x
end L2

namespace L2
open PySem PySem.Spec PyProof.Rows
section
variable {X : Cx}

/-- two expressions in a row -/
theorem bin {a b : Expr} {ta tb : TE} (ha : PE X a ta) (hb : PE X b tb) {pins : List (Addr × Obj)} {s : Shared} {σ : St} {H : Hp} {R : V → V → Hp → Prop} (I : Inv X pins σ H s) (h : ta σ H fun x H1 => tb σ H1 fun y H2 => R x y H2)
    {α : Type} {Q : α → Shared → Prop} {f : Value → Value → Sem α}
    (hf : ∀ v u s2 x y H2, Inv X pins σ H2 s2 → RelV x v → RelV y u → R x y H2 → wpAny (model X.prog X.w) X.A (f v u) Q X.xe s2) :
    wpAny (model X.prog X.w) X.A (eval a X.env) (fun v s₁ => wpAny (model X.prog X.w) X.A (eval b X.env) (fun u s₂ => wpAny (model X.prog X.w) X.A (f v u) Q X.xe s₂) X.xe s₁) X.xe s := by
  refine thn (ha pins s σ H _ I h) fun v s1 ⟨x, H1, I1, r1, q1⟩ => ?_
  refine thn (hb pins s1 σ H1 _ I1 q1) fun u s2 ⟨y, H2, I2, r2, q2⟩ => ?_
  exact hf v u s2 x y H2 I2 r1 r2 q2

/-! ### names and constants -/
def tVar (i : Nat) : TE := fun σ H Q => ∃ v, σ[i]? = some (some v) ∧ Q v H
def tC (v : V) : TE := fun _ H Q => Q v H
theorem pe_var {i : Nat} {x : Str} {pos : Pos} (hN : X.N[i]? = some x) (hv : Vis X.env.scope x) (hd : (x == ("__debug__" : Str)) = false := by decide) (hcd : (x == ("__classdict__" : Str)) = false := by decide) : PE X (.Name x pos) (tVar i) := by
  intro pins s σ H Q I h
  obtain ⟨v, e, h⟩ := h
  obtain ⟨m, hn, hl⟩ := I.loc
  obtain ⟨u, r, l⟩ := hl i x v hN e hv
  have fin : EP X pins σ Q u s := ⟨v, H, I, r, h⟩
  rcases l with ⟨hk, hm⟩ | ⟨hk, c, hc, hcell⟩
  · exact wpAny_Name (wpAny_loadName_local I.ok.kind hk hn hm fin) hd
  · rcases hk with hk | hk
    · exact wpAny_Name (wpAny_loadName_cell I.ok.kind hk hc hcell fin) hd
    · exact wpAny_Name (wpAny_loadName_free I.ok.kind hk hc hcell fin hcd) hd
theorem pe_int {i j pos} : PE X (.Constant (.int i) j pos) (tC (.int i)) := fun _ _ _ H _ I h => wpAny_Constant_int ⟨.int i, H, I.tok _, ⟨_, rfl⟩, h⟩
theorem pe_bl {b j pos} : PE X (.Constant (.bool b) j pos) (tC (.bl b)) := fun _ _ _ H _ I h => Constant_bool ⟨.bl b, H, I, rfl, h⟩
theorem pe_non {j pos} : PE X (.Constant .none j pos) (tC .non) := fun _ _ _ H _ I h => Constant_none ⟨.non, H, I, rfl, h⟩
/-- a global name of the def -/
def Gl (X : Cx) (x : Str) : Prop := X.env.kindOf x = some .globalImplicit
theorem ld_glob {E : Value → Shared → Prop} {pins : List (Addr × Obj)} {s : Shared} {σ : St} {H : Hp} {x : Str} {u : Value} {pos : Pos} {Q : Value → Shared → Prop} (I : Inv X pins σ H s) (hg : Gl X x) (hm : X.mg x = some u) (h : Q u s)
    (hd : (x == ("__debug__" : Str)) = false := by decide) : wpAny (model X.prog X.w) X.A (eval (.Name x pos) X.env) Q E s :=
  Calls.Name_function_global I.ok.kind hg (Calls.loadGlobal_global (by rw [I.ok.glob]; exact I.mod.glob.keeps I.bk) hm h) hd
theorem ld_blt {E : Value → Shared → Prop} {pins : List (Addr × Obj)} {s : Shared} {σ : St} {H : Hp} {x : Str} {u : Value} {pos : Pos} {Q : Value → Shared → Prop} (I : Inv X pins σ H s) (hg : Gl X x) (hm : X.mg x = none) (hv : bootBuiltins x = some u) (h : Q u s)
    (hn : x ≠ "__name__" := by decide) (hd : (x == ("__debug__" : Str)) = false := by decide) : wpAny (model X.prog X.w) X.A (eval (.Name x pos) X.env) Q E s := by
  obtain ⟨mb, h1, h2⟩ := I.mod.blt
  exact Calls.Name_function_global I.ok.kind hg (Calls.loadGlobal_builtin (by rw [I.ok.glob]; exact I.mod.glob.keeps I.bk) hm (by rw [I.ok.blt]; exact h1.keeps I.bk) ((h2 x hn).trans hv) h) hd
theorem pe_bltn {x : Str} {v : V} {u : Value} {pos : Pos} (hg : Gl X x) (hm : X.mg x = none) (hv : bootBuiltins x = some u) (r : RelV v u) (hn : x ≠ "__name__" := by decide) (hd : (x == ("__debug__" : Str)) = false := by decide) : PE X (.Name x pos) (tC v) :=
  fun _ _ _ H _ I h => ld_blt I hg hm hv ⟨v, H, I, r, h⟩ hn hd

/-! ### arithmetic -/
/-- two ints -/
def t2I (ta tb : TE) (k : Int → Int → Hp → Prop) : St → Hp → Prop := fun σ H => ta σ H fun x H1 => tb σ H1 fun y H2 => ∃ i j, x = .int i ∧ y = .int j ∧ k i j H2
variable {a b : Expr} {ta tb : TE} {pos : Pos}
/-! ### comparisons -/
def tCmp (p : Int → Int → Bool) (ta tb : TE) : TE := fun σ H Q => t2I ta tb (fun i j H2 => Q (.bl (p i j)) H2) σ H
abbrev tLt : TE → TE → TE := tCmp fun i j => decide (i < j)
abbrev tLe : TE → TE → TE := tCmp fun i j => decide (i ≤ j)
abbrev tGt : TE → TE → TE := tCmp fun i j => decide (j < i)
abbrev tGe : TE → TE → TE := tCmp fun i j => decide (j ≤ i)
abbrev tEqI : TE → TE → TE := tCmp fun i j => decide (i = j)
abbrev tNeI : TE → TE → TE := tCmp fun i j => !decide (i = j)
/-! ### and, or, not -/
variable {tA tB' : TT} {rest : List Expr}
def tNot (t : TT) : TT := fun σ H Q => t σ H fun c H1 => Q (!c) H1
theorem pw_and1 (ha : PT X a tA) : PW X (.BoolOp .And [a] pos) tA := by
  intro wh pins s σ H Q I h
  refine isTrue_and (thn (ha pins s σ H Q I h) fun c s1 e => ?_)
  cases c with
  | true => exact isTrue_and_nil e
  | false => exact e
theorem pw_or1 (ha : PT X a tA) : PW X (.BoolOp .Or [a] pos) tA := by
  intro wh pins s σ H Q I h
  refine isTrue_or (thn (ha pins s σ H Q I h) fun c s1 e => ?_)
  cases c with
  | false => exact isTrue_or_nil e
  | true => exact e
theorem pt_not (ha : PT X a tA) : PT X (.UnaryOp .Not a pos) (tNot tA) := by
  intro pins s σ H Q I h
  exact isTrue_not (ha pins s σ H (fun c H1 => Q (!c) H1) I h)
theorem pe_one {op} {t : TE} (h : PE X a t) : PE X (.BoolOp op [a] pos) t := fun pins s σ H Q I hw => BoolOp_one (h pins s σ H Q I hw)
end
end L2

namespace L2
open PySem PySem.Spec PyProof.Rows

/-! ### a list, a tuple that is read: tracked, frozen, or an object of the module -/
def SqL (K : PySem.W.Frag) (H : Hp) (a : Addr) (xs : List V) : Prop :=
  Rd H a (.lst xs) ∨
    ∃ (o : Obj) (its : Array Value) (n : Nat), K.lookup a = some o ∧ o.cls = .type "list" ∧ o.dict = none ∧ o.data = .seq its n ∧ its.size ≤ sizeLine ∧ Vals xs its.toList
def SqT (K : PySem.W.Frag) (H : Hp) (a : Addr) (xs : List V) : Prop :=
  Rd H a (.tup xs) ∨
    ∃ (o : Obj) (its : Array Value) (n : Nat), K.lookup a = some o ∧ o.cls = .type "tuple" ∧ o.data = .seq its n ∧ its.size ≤ sizeLine ∧ Vals xs its.toList
def absV : Value → Option V
  | .none => some .non
  | .bool b => some (.bl b)
  | .int i _ => some (.int i)
  | .str x _ => some (.str x)
  | .bytes b _ => some (.byt b)
  | .float b _ => some (.flt b)
  | .ref a => some (.ref a)
  | .type n => some (.ty n)
  | _ => none
theorem RelV.abs {x : V} {u : Value} (r : RelV x u) : absV u = some x := by
  cases x with
  | non => cases r; rfl
  | bl _ => cases r; rfl
  | int _ => obtain ⟨t, rfl⟩ := r; rfl
  | str _ => obtain ⟨t, rfl⟩ := r; rfl
  | byt _ => obtain ⟨t, rfl⟩ := r; rfl
  | flt _ => obtain ⟨t, rfl⟩ := r; rfl
  | ref _ => cases r; rfl
  | ty _ => cases r; rfl
theorem RelV.inj {x y : V} {u : Value} (r : RelV x u) (q : RelV y u) : x = y := Option.some.inj (r.abs.symm.trans q.abs)
theorem Vals.inj : ∀ {xs ys : List V} {us : List Value}, Vals xs us → Vals ys us → xs = ys
  | _, _, _, .nil, .nil => rfl
  | _, _, _, .cons r t, .cons r' t' => by rw [r.inj r', Vals.inj t t']
section
variable {X : Cx} {pins : List (Addr × Obj)} {σ : St} {H : Hp} {s : Shared} {a : Addr} {xs ys : List V}
theorem SqL.of {K : PySem.W.Frag} (h : H a = some (.lst xs)) : SqL K H a xs := .inl (.inl h)
theorem SqT.of {K : PySem.W.Frag} (h : H a = some (.tup xs)) : SqT K H a xs := .inl (.inl h)
theorem Inv.list (I : Inv X pins σ H s) (h : SqL X.K H a xs) : ∃ its : List Value, Vals xs its ∧ PlainL s.heap a its.toArray ∧ xs.length ≤ sizeLine := by
  rcases h with h | ⟨o, its, n, hk, hc, hd, hs, hz, r⟩
  · obtain ⟨z, its, n, r, e⟩ := h.ok I.hok
    exact ⟨its, r, ⟨_, n, e, rfl, rfl, rfl⟩, z⟩
  · refine ⟨its.toList, r, ⟨o, n, I.kIn a o hk, hc, hd, by simpa using hs⟩, ?_⟩
    have e := r.length
    simp only [Array.length_toList] at e
    omega
theorem Inv.tuple (I : Inv X pins σ H s) (h : SqT X.K H a xs) : ∃ its : List Value, Vals xs its ∧ IsTup s.heap a its.toArray ∧ xs.length ≤ sizeLine := by
  rcases h with h | ⟨o, its, n, hk, hc, hs, hz, r⟩
  · obtain ⟨z, its, r, p⟩ := h.ok I.hok
    exact ⟨its, r, p, z⟩
  · refine ⟨its.toList, r, ⟨o, I.kIn a o hk, hc, n, by simpa using hs⟩, ?_⟩
    have e := r.length
    simp only [Array.length_toList] at e
    omega
theorem Inv.list_inj (I : Inv X pins σ H s) (h : SqL X.K H a xs) (h' : SqL X.K H a ys) : xs = ys := by
  obtain ⟨its, r, ⟨o, n, e, _, _, d⟩, _⟩ := I.list h
  obtain ⟨its', r', ⟨o', n', e', _, _, d'⟩, _⟩ := I.list h'
  rw [e] at e'; cases e'
  rw [d] at d'
  injection d' with d1 _
  have : its = its' := by simpa using congrArg Array.toList d1
  subst this
  exact r.inj r'
theorem Inv.tuple_inj (I : Inv X pins σ H s) (h : SqT X.K H a xs) (h' : SqT X.K H a ys) : xs = ys := by
  obtain ⟨its, r, ⟨o, e, _, n, d⟩, _⟩ := I.tuple h
  obtain ⟨its', r', ⟨o', e', _, n', d'⟩, _⟩ := I.tuple h'
  rw [e] at e'; cases e'
  rw [d] at d'
  injection d' with d1 _
  have : its = its' := by simpa using congrArg Array.toList d1
  subst this
  exact r.inj r'
end

/-! ### another wish about exceptions -/
abbrev Cx.wish (X : Cx) (E : Value → Shared → Prop) : Cx := { X with xe := E }
/-- no exception leaves -/
abbrev Cx.nox (X : Cx) : Cx := X.wish fun _ _ => False
theorem Cx.Ok.wish {X : Cx} (ok : X.Ok) (E : Value → Shared → Prop) : (X.wish E).Ok :=
  ⟨ok.mod, ok.kind, ok.glob, ok.blt, ok.above, ok.inj, ok.has, ok.cab, ok.hd, ok.frames, ok.stk, ok.exf, ok.bs, ok.bsz, ok.noex, ok.exfs, ok.funs, ok.frf⟩
theorem Cx.Ok.unwish {X : Cx} {E : Value → Shared → Prop} (ok : (X.wish E).Ok) : X.Ok :=
  ⟨ok.mod, ok.kind, ok.glob, ok.blt, ok.above, ok.inj, ok.has, ok.cab, ok.hd, ok.frames, ok.stk, ok.exf, ok.bs, ok.bsz, ok.noex, ok.exfs, ok.funs, ok.frf⟩
section
variable {X : Cx} {pins : List (Addr × Obj)} {σ : St} {H : Hp} {s : Shared} {E : Value → Shared → Prop}
theorem Inv.wish (I : Inv X pins σ H s) (E : Value → Shared → Prop) : Inv (X.wish E) pins σ H s := ⟨I.ok.wish E, I.os, I.bare, I.base, I.loc, I.cell, I.free, I.freeC, I.pin, I.hok, I.len⟩
theorem Inv.unwish (I : Inv (X.wish E) pins σ H s) : Inv X pins σ H s := ⟨I.ok.unwish, I.os, I.bare, I.base, I.loc, I.cell, I.free, I.freeC, I.pin, I.hok, I.len⟩
theorem SP.unwish {D : Ends} {f : Flow} {s' : Shared} (h : SP (X.wish E) pins D f s') : SP X pins D f s' := by
  cases f with
  | next => obtain ⟨σ', H', I, q⟩ := h; exact ⟨σ', H', I.unwish, q⟩
  | brk => obtain ⟨σ', H', I, q⟩ := h; exact ⟨σ', H', I.unwish, q⟩
  | cont => obtain ⟨σ', H', I, q⟩ := h; exact ⟨σ', H', I.unwish, q⟩
  | ret u => obtain ⟨v, σ', H', I, r, q⟩ := h; exact ⟨v, σ', H', I.unwish, r, q⟩
theorem PSs.nox {st : List Stmt} {t : TS} (h : PSs X.nox st t) : PSs X st t := fun pins s σ H D I hw =>
  wpAny_mono (h pins s σ H D (I.wish _) hw) (fun _ _ q => q.unwish) fun _ _ z => False.elim z
end

/-! ### blocks and small statements -/
section
variable {X : Cx} {st : Stmt} {rest : List Stmt} {t u : TS} {e : Expr} {te : TE} {pos : Pos}
def tNext : TS := fun D σ H => D.nx σ H
def tSeq (t u : TS) : TS := fun D σ H => t { D with nx := u D } σ H
theorem pss_nil : PSs X [] tNext := fun _ _ σ H _ I h => wpAny_execs_nil ⟨σ, H, I, h⟩
theorem pss_cons (h1 : PS X st t) (h2 : PSs X rest u) : PSs X (st :: rest) (tSeq t u) := by
  intro pins s σ H D I h
  refine wpAny_execs_cons (thn (h1 pins s σ H { D with nx := u D } I h) fun f s1 q => ?_)
  cases f with
  | next =>
    obtain ⟨σ', H', I', q⟩ := q
    exact h2 pins s1 σ' H' D I' q
  | ret v => exact q
  | brk => exact q
  | cont => exact q
theorem pss_one (h1 : PS X st t) : PSs X [st] t := by
  intro pins s σ H D I h
  refine wpAny_execs_cons (thn (h1 pins s σ H D I h) fun f s1 q => ?_)
  cases f with
  | next => exact wpAny_execs_nil q
  | ret v => exact q
  | brk => exact q
  | cont => exact q
/-- in a def's body nothing is shown -/
theorem Inv.quiet {pins : List (Addr × Obj)} {σ : St} {H : Hp} {s : Shared} (I : Inv X pins σ H s) : interactive X.env = false := by simp [interactive, I.ok.kind]
/-- an expression whose value is dropped -/
def tDrop (te : TE) : TS := fun D σ H => te σ H fun _ H1 => D.nx σ H1
theorem ps_expr (he : PE X e te) (hs : swapsWith e none pos.line X.env = pure false := by rfl) : PS X (.Expr e pos) (tDrop te) := by
  intro pins s σ H D I h
  exact wpAny_Expr_any (thn (he pins s σ H _ I h) fun v s1 ⟨x, H1, I1, r1, q1⟩ => ⟨σ, H1, I1, q1⟩) I.quiet hs
def tRet (te : TE) : TS := fun D σ H => te σ H D.rt
theorem ps_ret (he : PE X e te) : PS X (.Return (some e) pos) (tRet te) := by
  intro pins s σ H D I h
  exact wpAny_Return_some (thn (he pins s σ H _ I h) fun v s1 ⟨x, H1, I1, r1, q1⟩ => ⟨x, σ, H1, I1, r1, q1⟩)
/-- code that the proof never comes to -/
def tNever : TS := fun _ _ _ => False
theorem ps_never : PS X st tNever := fun _ _ _ _ _ _ h => h.elim
end

/-! ### targets -/
abbrev TG := V → St → Hp → (St → Hp → Prop) → Prop
abbrev TGs := List V → St → Hp → (St → Hp → Prop) → Prop
def PG (X : Cx) (target : Expr) (t : TG) : Prop :=
  ∀ (pins : List (Addr × Obj)) (s : Shared) (σ : St) (H : Hp) (v : V) (u : Value) (Q : St → Hp → Prop), Inv X pins σ H s → RelV v u → t v σ H Q →
    wpAny (model X.prog X.w) X.A (assign target X.env u) (fun _ s' => ∃ σ' H', Inv X pins σ' H' s' ∧ Q σ' H') X.xe s
/-- several targets, one after another -/
def PGs (X : Cx) (ts : List Expr) (t : TGs) : Prop :=
  ∀ (pins : List (Addr × Obj)) (s : Shared) (σ : St) (H : Hp) (vs : List V) (us : List Value) (Q : St → Hp → Prop), Inv X pins σ H s → Vals vs us → t vs σ H Q →
    wpAny (model X.prog X.w) X.A (assignInOrder ((assignEach ts X.env).map (·.2)) us) (fun _ s' => ∃ σ' H', Inv X pins σ' H' s' ∧ Q σ' H') X.xe s
/-- o[i] = v, by values -/
abbrev TSet := V → V → V → Hp → (Hp → Prop) → Prop
/-- a op= b, by values -/
abbrev TIp := V → V → Hp → VK → Prop
def PIp (X : Cx) (op : Operator) (t : TIp) : Prop :=
  ∀ (pins : List (Addr × Obj)) (s : Shared) (σ : St) (H : Hp) (x y : V) (v u : Value) (Q : VK), Inv X pins σ H s → RelV x v → RelV y u → t x y H Q →
    wpAny (model X.prog X.w) X.A (inplaceOp op v u) (EP X pins σ Q) X.xe s
section
variable {X : Cx} {pos : Pos}
def gName (i : Nat) : TG := fun v σ H Q => Q (σ.set i (some v)) H
theorem pg_name {i : Nat} {x : Str} (hN : X.N.Nodup) (hi : X.N[i]? = some x) (hx : Loc X.env.scope x) (hf : X.fn x = true ∨ X.env.scope.names.lookup x = some .local := by first | exact .inl rfl | exact .inr rfl | assumption) : PG X (.Name x pos) (gName i) := by
  intro pins s σ H v u Q I r h
  exact wpAny_assign_Name (store_ok I hN hi hx r (fun s' I' => ⟨_, H, I', h⟩) hf)
def gNil : TGs := fun vs σ H Q => vs = [] ∧ Q σ H
def gCons (t : TG) (u : TGs) : TGs := fun vs σ H Q => ∃ v r, vs = v :: r ∧ t v σ H fun σ' H' => u r σ' H' Q
theorem pgs_nil : PGs X [] gNil := by
  intro pins s σ H vs us Q I r h
  obtain ⟨e, h⟩ := h
  subst e
  cases r
  exact assignInOrder_nil ⟨σ, H, I, h⟩
theorem pgs_cons {e : Expr} {es : List Expr} {t : TG} {u : TGs} (h1 : PG X e t) (h2 : PGs X es u)
    (hs : (assignEach (e :: es) X.env).map (·.2) = assign e X.env :: (assignEach es X.env).map (·.2) := by rfl) : PGs X (e :: es) (gCons t u) := by
  intro pins s σ H vs us Q I r h
  obtain ⟨v, vr, e1, h⟩ := h
  subst e1
  cases r with
  | cons r rr =>
    rw [hs]
    refine assignInOrder_cons (thn (h1 pins s σ H _ _ _ I r h) fun _ s1 ⟨σ1, H1, I1, q1⟩ => ?_)
    exact h2 pins s1 σ1 H1 _ _ Q I1 rr q1
/-- (a, b, ..) = a tuple of that length -/
def gTup (K : PySem.W.Frag) (n : Nat) (t : TGs) : TG := fun v σ H Q => ∃ a xs, v = .ref a ∧ SqT K H a xs ∧ xs.length = n ∧ t xs σ H Q
theorem pg_tup {es : List Expr} {k : Nat} {t : TGs} {n : Nat} (hc : X.calm = true) (h : PGs X es t)
    (hn : (assignEach es X.env).length = n := by rfl) (hst : (assignEach es X.env).findIdx? (·.1) = none := by rfl) : PG X (.Tuple es k pos) (gTup X.K n t) := by
  intro pins s σ H v u Q I r hw
  obtain ⟨a, xs, e1, hq, hl, hw⟩ := hw
  subst e1
  cases r
  obtain ⟨its, rv, ht, hz⟩ := I.tuple hq
  refine assign_Tuple_tuple (I.ok.hd hc) ht (by simp [hn, ← hl, rv.length]) hst fun h' hx => ?_
  have I1 : Inv X pins σ H { s with heap := h' } := I.kept (t' := s.toks) fun b o e => hx b o (Nat.ne_of_lt (Heap.lt_size e)) e
  exact h pins _ σ H xs _ Q I1 (by simpa using rv) hw
/-- target = value -/
def tAsg (te : TE) (g : TG) : TS := fun D σ H => te σ H fun x H1 => g x σ H1 D.nx
theorem ps_asg {tg e : Expr} {te : TE} {g : TG} (he : PE X e te) (hg : PG X tg g) (hs : swapsWithSole [tg] e pos.line X.env = pure false := by rfl) (hw : swappedStores [tg] e X.env = pure none := by rfl)
    (h1 : (assignEach [tg] X.env).map (·.2) = [assign tg X.env] := by rfl) : PS X (.Assign [tg] e pos) (tAsg te g) := by
  intro pins s σ H D I h
  refine wpAny_Assign_stores (thn (he pins s σ H _ I h) fun v s1 ⟨x, H1, I1, r1, q1⟩ => ?_) hs hw
  rw [h1]
  exact thn (hg pins s1 σ H1 x v _ I1 r1 q1) fun _ s2 q => q
/-- name = value -/
theorem ps_set {i : Nat} {x : Str} {e : Expr} {te : TE} {pos' : Pos} (hN : X.N.Nodup) (hi : X.N[i]? = some x) (hx : Loc X.env.scope x) (he : PE X e te) (hs : swapsWith e (some (.Name x pos')) pos.line X.env = pure false := by rfl) (hf : X.fn x = true ∨ X.env.scope.names.lookup x = some .local := by first | exact .inl rfl | exact .inr rfl | assumption) :
    PS X (.Assign [.Name x pos'] e pos) (tAsg te (gName i)) := by
  intro pins s σ H D I h
  refine wpAny_Assign_Name (thn (he pins s σ H _ I h) fun v s1 ⟨y, H1, I1, r1, q1⟩ => ?_) hs
  exact store_ok I1 hN hi hx r1 (fun s2 I2 => ⟨_, H1, I2, q1⟩) hf
/-- name op= e -/
def tAug (i : Nat) (te : TE) (ti : TIp) : TS := fun D σ H => ∃ x, σ[i]? = some (some x) ∧ te σ H fun y H1 => ti x y H1 fun z H2 => D.nx (σ.set i (some z)) H2
theorem ps_aug {i : Nat} {x : Str} {e : Expr} {te : TE} {op : Operator} {ti : TIp} {pos' : Pos} (hN : X.N.Nodup) (hi : X.N[i]? = some x) (hx : Loc X.env.scope x) (he : PE X e te) (ho : PIp X op ti) (hf : X.fn x = true ∨ X.env.scope.names.lookup x = some .local := by first | exact .inl rfl | exact .inr rfl | assumption) :
    PS X (.AugAssign (.Name x pos') op e pos) (tAug i te ti) := by
  intro pins s σ H D I h
  obtain ⟨v, e1, h⟩ := h
  obtain ⟨m, hn, hl⟩ := I.loc
  have vis : Vis X.env.scope x := by rcases hx with k | k; exact .inl k; exact .inr (.inl k)
  obtain ⟨u, r, l⟩ := hl i x v hi e1 vis
  refine wpAny_AugAssign_Name ?_
  have go : wpAny (model X.prog X.w) X.A (eval e X.env) (fun w s₂ => wpAny (model X.prog X.w) X.A (inplaceOp op u w) (fun r s₃ => wpAny (model X.prog X.w) X.A (storeName X.env x r) (fun _ => SP X pins D .next) X.xe s₃) X.xe s₂) X.xe s := by
    refine thn (he pins s σ H _ I h) fun w s1 ⟨y, H1, I1, r1, q1⟩ => ?_
    refine thn (ho pins s1 σ H1 v y u w _ I1 r r1 q1) fun z s2 ⟨zv, H2, I2, r2, q2⟩ => ?_
    exact store_ok I2 hN hi hx r2 (fun s3 I3 => ⟨_, H2, I3, q2⟩) hf
  rcases l with ⟨hk, hm⟩ | ⟨hk, c, hc, hcell⟩
  · exact wpAny_loadName_local I.ok.kind hk hn hm go
  · rcases hk with hk | hk
    · exact wpAny_loadName_cell I.ok.kind hk hc hcell go
    · rcases hx with k | k
      · have : X.env.scope.names.lookup x = some .free := hk
        rw [k] at this; cases this
      · have : X.env.scope.names.lookup x = some .free := hk
        rw [k] at this; cases this
/-- ints -/
def ipI (f : Int → Int → Int) : TIp := fun x y H Q => ∃ i j, x = .int i ∧ y = .int j ∧ Q (.int (f i j)) H
theorem ip_add : PIp X .Add (ipI fun i j => i + j) := by
  intro pins s σ H x y v u Q I r1 r2 h
  obtain ⟨i, j, e1, e2, q⟩ := h
  subst e1; subst e2
  obtain ⟨t, rfl⟩ := r1
  obtain ⟨t', rfl⟩ := r2
  exact iadd_int ⟨.int _, H, I.tok _, ⟨_, rfl⟩, q⟩
theorem ip_sub : PIp X .Sub (ipI fun i j => i - j) := by
  intro pins s σ H x y v u Q I r1 r2 h
  obtain ⟨i, j, e1, e2, q⟩ := h
  subst e1; subst e2
  obtain ⟨t, rfl⟩ := r1
  obtain ⟨t', rfl⟩ := r2
  exact isub_int ⟨.int _, H, I.tok _, ⟨_, rfl⟩, q⟩
end

/-! ### while -/
section
variable {X : Cx} {pos : Pos}
end

/-! ### what a loop or a comprehension walks -/
/-- at turn i: it yields x (the heap may grow), or it stops -/
structure It where
  go : Nat → Hp → Prop
  yld : Nat → Hp → V → Hp → Prop
  stop : Nat → Hp → Prop
/-- the iterator's own objects may turn: they are not the frame's, not pinned, younger than the entry (or a comprehension's own) -/
def FpOk (X : Cx) (pins : List (Addr × Obj)) (H : Hp) (b : Addr) : Prop :=
  H b = none ∧ b ≠ X.env.locals ∧ b ∉ X.fs ∧ (b ∈ X.ex ∨ X.s₀.heap.objs.size ≤ b) ∧ (∀ x c, X.env.cells.lookup x = some c → c ≠ b) ∧ ∀ p ∈ X.pn ++ pins, p.1 ≠ b
theorem Inv.fpOk {X : Cx} {pins : List (Addr × Obj)} {σ : St} {H H' : Hp} {s : Shared} {b : Addr} (I : Inv X pins σ H s) (hb : s.heap.objs.size ≤ b) (hn : H' b = none) : FpOk X pins H' b := by
  refine ⟨hn, Nat.ne_of_gt (Nat.lt_of_lt_of_le I.lt hb), I.nofs hb, .inr (Nat.le_trans I.sz hb), fun x c e z => ?_, fun p hp z => ?_⟩
  · obtain ⟨v, q⟩ := I.cell x c e
    exact absurd (Nat.lt_of_lt_of_le q.lt (by rw [z]; exact hb)) (Nat.lt_irrefl _)
  · exact absurd (Nat.lt_of_lt_of_le (Heap.lt_size (I.pin p hp).1) (by rw [z]; exact hb)) (Nat.lt_irrefl _)
structure Turn (P : Program) (w : World) (K : PySem.W.Frag) (tg : Expr) (J : It) (fp : List Addr) (it : Addr) (tn : Nat → Heap → Prop) : Prop where
  mem : it ∈ fp
  obj : ∀ i h, tn i h → ∀ b ∈ fp, ∃ o, h.get? b = some o ∧ ∀ v, o.data ≠ .cell v
  keep : ∀ i h h', tn i h → (∀ b ∈ fp, ∀ o, h.get? b = some o → h'.get? b = some o) → tn i h'
  item : ∀ (X : Cx), X.prog = P → X.w = w → X.K = K → X.calm = true → ∀ (i : Nat) (pins : List (Addr × Obj)) (s : Shared) (σ : St) (H : Hp) (E : Value → Shared → Prop), Inv X pins σ H s → (∀ b ∈ fp, FpOk X pins H b) → tn i s.heap → J.go i H →
    wpAny (model P w) X.A (pyNext (.ref it)) (fun r s1 => ∃ u, r = some u ∧
      wpAny (model P w) X.A (letOwnedTupleGo tg (.ref it) u) (fun _ s2 => ∃ x H', Inv X pins σ H' s2 ∧ RelV x u ∧ J.yld i H x H' ∧ tn (i + 1) s2.heap ∧ ∀ b ∈ fp, H' b = none) E s1) E s
  done : ∀ (X : Cx), X.prog = P → X.w = w → X.K = K → X.calm = true → ∀ (i : Nat) (pins : List (Addr × Obj)) (s : Shared) (σ : St) (H : Hp) (E : Value → Shared → Prop), Inv X pins σ H s → (∀ b ∈ fp, FpOk X pins H b) → tn i s.heap → J.stop i H →
    wpAny (model P w) X.A (pyNext (.ref it)) (fun r s1 => r = none ∧ Inv X pins σ H s1) E s
  self : ∀ (A : Around) (i : Nat) (s : Shared) (Q : Value → Shared → Prop) (E : Value → Shared → Prop), tn i s.heap → Q (.ref it) s → wpAny (model P w) A (pyIter (.ref it)) Q E s
abbrev TI := St → Hp → (It → Hp → Prop) → Prop
/-- an iterator has come -/
def PIE (X : Cx) (pins : List (Addr × Obj)) (σ : St) (tg : Expr) (R : It → Hp → Prop) (itv : Value) (s2 : Shared) : Prop :=
  ∃ (it : Addr) (fp : List Addr) (tn : Nat → Heap → Prop) (J : It) (H' : Hp), itv = .ref it ∧ Inv X pins σ H' s2 ∧ Turn X.prog X.w X.K tg J fp it tn ∧ tn 0 s2.heap ∧ (∀ b ∈ fp, FpOk X pins H' b) ∧ R J H'
def PI (X : Cx) (tg iter : Expr) (wi : TI) : Prop :=
  ∀ (pins : List (Addr × Obj)) (s : Shared) (σ : St) (H : Hp) (R : It → Hp → Prop), Inv X pins σ H s → wi σ H R →
    wpAny (model X.prog X.w) X.A (eval iter X.env) (fun v s1 => wpAny (model X.prog X.w) X.A (pyIter v) (PIE X pins σ tg R) X.xe s1) X.xe s

/-- the step ahead of the store is nothing for an iterator that keeps no tuple -/
theorem go_of {M : Model} {A : Around} {E : Value → Shared → Prop} {s : Shared} {tg : Expr} {it : Addr} {u : Value} {o : Obj} {n : String} {vs : Array Value} {Q : Unit → Shared → Prop} (ho : s.heap.get? it = some o) (hc : o.cls = .type n) (hd : o.data = .fields vs)
    (hn : ["enumerate", "zip", "dict_itemiterator", "dict_reverseitemiterator", "odict_iterator", "itertools.zip_longest", "itertools.pairwise"].contains n = false) (hQ : Q () s) : wpAny M A (letOwnedTupleGo tg (.ref it) u) Q E s := by
  unfold letOwnedTupleGo
  cases tg <;> first
    | exact wpAny_pure hQ
    | (cases u <;> first
        | exact wpAny_pure hQ
        | (refine wpAny_bind (wpAny_load ho ?_)
           rw [hc, hd]
           show wpAny M A (if (["enumerate", "zip", "dict_itemiterator", "dict_reverseitemiterator", "odict_iterator", "itertools.zip_longest", "itertools.pairwise"].contains n && vs[0]? == some (rawInt _)) = true then _ else _) Q E s
           rw [if_neg (by intro h; rw [hn, Bool.false_and] at h; cases h)]
           exact wpAny_pure hQ))

/-- the list at a, as it stands at each turn (a loop may append to it) -/
def Itl (K : PySem.W.Frag) (a : Addr) : It :=
  ⟨fun i H => ∃ xs x, SqL K H a xs ∧ xs[i]? = some x, fun i H x H' => H' = H ∧ ∀ xs, SqL K H a xs → xs[i]? = some x, fun i H => ∃ xs, SqL K H a xs ∧ xs.length ≤ i⟩
def Itt (K : PySem.W.Frag) (a : Addr) : It :=
  ⟨fun i H => ∃ xs x, SqT K H a xs ∧ xs[i]? = some x, fun i H x H' => H' = H ∧ ∀ xs, SqT K H a xs → xs[i]? = some x, fun i H => ∃ xs, SqT K H a xs ∧ xs.length ≤ i⟩
/-- lo, lo + 1, .. (n of them) -/
def Itr (lo : Int) (n : Nat) : It := ⟨fun i _ => i < n, fun i H x H' => H' = H ∧ x = .int (lo + i), fun i _ => n ≤ i⟩
theorem turn_list {P : Program} {w : World} {K : PySem.W.Frag} {tg : Expr} (a it : Addr) : Turn P w K tg (Itl K a) [it] it (fun i h => h.IsListIter it a i) where
  mem := by simp
  obj := fun i h st b hb => by
    have e : b = it := by simpa using hb
    subst e
    obtain ⟨o, e, c, d⟩ := st
    exact ⟨o, e, fun v z => by rw [d] at z; cases z⟩
  keep := fun i h h' st k => st.at fun o e => k it (by simp) o e
  item := by
    intro X hP hw hK hc i pins s σ H E I hf st hg
    subst hP hw hK
    obtain ⟨xs, x, hq, hx⟩ := hg
    obtain ⟨its, rv, p, hz⟩ := I.list hq
    obtain ⟨u, hu, ru⟩ := rv.get hx
    obtain ⟨f0, f1, f2, f3, f4, f5⟩ := hf it (by simp)
    refine wpAny_pyNext_list_item st p.isList (x := u) (by simpa using hu) fun h' st' sb => ?_
    have I1 : Inv X pins σ H { s with heap := h' } := I.turned (t' := s.toks) (fun b o hb e => (sb.2 b hb).trans e) f0 f1 f3 f4 f5
    obtain ⟨o, e, c, d⟩ := id st'
    exact ⟨u, rfl, go_of (s := { s with heap := h' }) e c d (by decide) ⟨x, H, I1, ru, ⟨rfl, fun ys hy => by rw [I.list_inj hy hq]; exact hx⟩, st', fun b hb => (hf b hb).1⟩⟩
  done := by
    intro X hP hw hK hc i pins s σ H E I hf st hg
    subst hP hw hK
    obtain ⟨xs, hq, hx⟩ := hg
    obtain ⟨its, rv, p, hz⟩ := I.list hq
    obtain ⟨f0, f1, f2, f3, f4, f5⟩ := hf it (by simp)
    have hl := rv.length
    exact wpAny_pyNext_list_end (I.ok.hd hc) st p.isList (by simp; omega) fun h' eb => ⟨rfl, I.turned (t' := s.toks) (fun b o hb e => eb b o hb e) f0 f1 f3 f4 f5⟩
  self := fun _ _ _ _ _ st h => wpAny_pyIter_listiter st h
theorem turn_tuple {P : Program} {w : World} {K : PySem.W.Frag} {tg : Expr} (a it : Addr) : Turn P w K tg (Itt K a) [it] it (fun i h => h.IsTupleIter it a i) where
  mem := by simp
  obj := fun i h st b hb => by
    have e : b = it := by simpa using hb
    subst e
    obtain ⟨o, e, c, d⟩ := st
    exact ⟨o, e, fun v z => by rw [d] at z; cases z⟩
  keep := fun i h h' st k => st.at fun o e => k it (by simp) o e
  item := by
    intro X hP hw hK hc i pins s σ H E I hf st hg
    subst hP hw hK
    obtain ⟨xs, x, hq, hx⟩ := hg
    obtain ⟨its, rv, p, hz⟩ := I.tuple hq
    obtain ⟨u, hu, ru⟩ := rv.get hx
    obtain ⟨f0, f1, f2, f3, f4, f5⟩ := hf it (by simp)
    refine wpAny_pyNext_tuple_item st (show s.heap.IsTuple a its.toArray from p) (x := u) (by simpa using hu) fun h' st' sb => ?_
    have I1 : Inv X pins σ H { s with heap := h' } := I.turned (t' := s.toks) (fun b o hb e => (sb.2 b hb).trans e) f0 f1 f3 f4 f5
    obtain ⟨o, e, c, d⟩ := id st'
    exact ⟨u, rfl, go_of (s := { s with heap := h' }) e c d (by decide) ⟨x, H, I1, ru, ⟨rfl, fun ys hy => by rw [I.tuple_inj hy hq]; exact hx⟩, st', fun b hb => (hf b hb).1⟩⟩
  done := by
    intro X hP hw hK hc i pins s σ H E I hf st hg
    subst hP hw hK
    obtain ⟨xs, hq, hx⟩ := hg
    obtain ⟨its, rv, p, hz⟩ := I.tuple hq
    obtain ⟨f0, f1, f2, f3, f4, f5⟩ := hf it (by simp)
    have hl := rv.length
    exact wpAny_pyNext_tuple_end (I.ok.hd hc) st (show s.heap.IsTuple a its.toArray from p) (by simp; omega) fun h' eb => ⟨rfl, I.turned (t' := s.toks) (fun b o hb e => eb b o hb e) f0 f1 f3 f4 f5⟩
  self := fun _ _ _ _ _ st h => wpAny_pyIter_tupleiter st h
theorem turn_range {P : Program} {w : World} {K : PySem.W.Frag} {tg : Expr} (it : Addr) (lo : Int) (n : Nat) : Turn P w K tg (Itr lo n) [it] it (fun i h => IsRangeIter h it (lo + (i : Nat) * 1) ((n : Int) - (i : Nat)) 1) where
  mem := by simp
  obj := fun i h st b hb => by
    have e : b = it := by simpa using hb
    subst e
    exact ⟨_, st, fun v z => by
      have z' : Data.fields _ = Data.cell v := z
      cases z'⟩
  keep := fun i h h' st k => k it (by simp) _ st
  item := by
    intro X hP hw hK hc i pins s σ H E I hf st hg
    subst hP hw hK
    obtain ⟨f0, f1, f2, f3, f4, f5⟩ := hf it (by simp)
    have W := Walks.range (prog := X.prog) (w := X.w) (I.ok.hd hc) it lo 1 n
    refine W.item i s _ _ hg st fun v h' tk hv st' kk => ?_
    obtain ⟨t, rfl⟩ := hv
    have I1 : Inv X pins σ H { s with heap := h', toks := tk } := I.turned (fun b o hb e => kk b o (by simpa using hb) e) f0 f1 f3 f4 f5
    refine ⟨_, rfl, go_of (s := { s with heap := h', toks := tk }) (n := "range_iterator") st' rfl rfl (by decide) ⟨.int (lo + i), H, I1, ⟨t, ?_⟩, ⟨rfl, rfl⟩, st', fun b hb => (hf b hb).1⟩⟩
    rw [Int.mul_one]
  done := by
    intro X hP hw hK hc i pins s σ H E I hf st hg
    subst hP hw hK
    obtain ⟨f0, f1, f2, f3, f4, f5⟩ := hf it (by simp)
    exact wpAny_pyNext_range_end (I.ok.hd hc) st (by have : n ≤ i := hg; omega) fun h' eb => ⟨rfl, I.turned (t' := s.toks) (fun b o hb e => eb b o hb e) f0 f1 f3 f4 f5⟩
  self := fun _ _ _ _ _ st h => wpAny_pyIter_rangeiter st h
end L2

namespace L2
open PySem PySem.Spec PyProof.Rows
section
variable {X : Cx} {tg : Expr}
/-- a range object just made, walked -/
theorem range_it {pins : List (Addr × Obj)} {σ : St} {H : Hp} {s : Shared} {R : It → Hp → Prop} {E : Value → Shared → Prop} {lo hi : Int} {t u v : Tok} {tk : Nat} (I : Inv X pins σ H s) (h1 : -(2 ^ 62) ≤ lo) (h2 : lo < 2 ^ 62) (h3 : -(2 ^ 62) ≤ hi) (h4 : hi < 2 ^ 62)
    (q : R (Itr lo (hi - lo).toNat) H) : wpAny (model X.prog X.w) X.A (pyIter (.ref s.heap.objs.size)) (PIE X pins σ tg R) E { s with heap := s.heap.push { cls := .type "range", data := .fields #[.int lo t, .int hi u, .int 1 v] }, toks := tk } := by
  refine wpAny_pyIter_range (IsRange.new ..) (small_one h1 h2 h3 h4) ?_
  have I1 : Inv X pins σ H { s with heap := s.heap.push { cls := .type "range", data := .fields #[.int lo t, .int hi u, .int 1 v] }, toks := tk } := I.kept fun b o e => Heap.get?_push_of_some _ e
  refine ⟨(s.heap.push { cls := .type "range", data := .fields #[.int lo t, .int hi u, .int 1 v] }).objs.size, [(s.heap.push { cls := .type "range", data := .fields #[.int lo t, .int hi u, .int 1 v] }).objs.size], _, _, H, rfl,
    I1.kept (t' := tk) fun b o e => Heap.get?_push_of_some _ e, turn_range _ lo (hi - lo).toNat, ?_, fun b hb => ?_, q⟩
  · have e1 : lo + ((0 : Nat) : Int) * 1 = lo := by simp
    have e2 : (((hi - lo).toNat : Nat) : Int) - ((0 : Nat) : Int) = Builtin.Range.rangeSize lo hi 1 := by rw [rangeSize_one]; split <;> omega
    show IsRangeIter _ _ (lo + ((0 : Nat) : Int) * 1) ((((hi - lo).toNat : Nat) : Int) - ((0 : Nat) : Int)) 1
    rw [e1, e2]
    exact Heap.get?_push_size _ rfl
  · have e : b = (s.heap.push { cls := .type "range", data := .fields #[.int lo t, .int hi u, .int 1 v] }).objs.size := by simpa using hb
    subst e
    exact I1.fpOk (Nat.le_refl _) (I1.hok.fresh (Nat.le_refl _))
def iRng1 (ta : TA) : TI := fun σ H R => ta σ H fun vs H1 => ∃ j : Int, vs = [.int j] ∧ -(2 ^ 62) ≤ j ∧ j < 2 ^ 62 ∧ R (Itr 0 j.toNat) H1
theorem pi_range1 {a : Expr} {ta : TA} {p pos : Pos} (hg : Gl X "range") (hm : X.mg "range" = none) (ha : PA X [a] ta) (hs : starEach [a] X.env = [(false, eval a X.env)] := by rfl) : PI X tg (.Call (.Name "range" p) [a] [] pos) (iRng1 ta) := by
  intro pins s σ H R I h
  refine Call_ (ld_blt I hg hm boot_range (PyProof.Rows.callWith_type1 (thn (ha pos pins s σ H _ I h) fun us s1 ⟨vs, H1, I1, r1, q1⟩ => ?_) hs rfl))
  obtain ⟨j, e, q1, q2, q⟩ := q1
  subst e
  cases r1 with
  | cons r rr =>
    cases rr
    obtain ⟨t, rfl⟩ := r
    exact call_range_1 (range_it I1 (by omega) (by omega) q1 q2 (by simpa using q))
/-! ### for -/
/-- W: the invariant by the turn and a measure; N: what the body is to reach -/
def tFor (wi : TI) (g : TG) (tb : TS) : TS := fun D σ H => wi σ H fun J H1 => ∃ W : Nat → Nat → St → Hp → Prop, (∃ m, W 0 m σ H1) ∧ ∀ i m σ H, W i m σ H →
  (J.stop i H ∧ D.nx σ H) ∨ (J.go i H ∧ ∃ N : St → Hp → Prop, (∀ σ' H', N σ' H' → ∃ m', m' < m ∧ W (i + 1) m' σ' H') ∧ ∀ x H', J.yld i H x H' → g x σ H' fun σ2 H2 => tb { D with nx := N, ct := N, bk := D.nx } σ2 H2)
/-- the records at fp as they stand -/
def pinsAt (fp : List Addr) (h : Heap) : List (Addr × Obj) := fp.filterMap fun b => (h.get? b).map fun o => (b, o)
theorem mem_pinsAt {fp : List Addr} {h : Heap} {b : Addr} {o : Obj} (hb : b ∈ fp) (e : h.get? b = some o) : (b, o) ∈ pinsAt fp h := List.mem_filterMap.mpr ⟨b, hb, by rw [e]; rfl⟩
theorem of_pinsAt {fp : List Addr} {h : Heap} {p : Addr × Obj} (hp : p ∈ pinsAt fp h) : p.1 ∈ fp ∧ h.get? p.1 = some p.2 := by
  obtain ⟨b, hb, e⟩ := List.mem_filterMap.mp hp
  cases q : h.get? b with
  | none => rw [q] at e; cases e
  | some o =>
    rw [q] at e
    have e' : (b, o) = p := Option.some.inj e
    subst e'
    exact ⟨hb, q⟩
theorem Inv.pinned {pins : List (Addr × Obj)} {σ : St} {H : Hp} {s : Shared} {fp : List Addr} (I : Inv X pins σ H s) (hf : ∀ b ∈ fp, FpOk X pins H b) (ho : ∀ b ∈ fp, ∃ o, s.heap.get? b = some o ∧ ∀ v, o.data ≠ .cell v) : Inv X (pins ++ pinsAt fp s.heap) σ H s :=
  I.pins_of fun p hp => (List.mem_append.mp hp).elim (fun z => I.pin p (List.mem_append_right _ z)) fun z => by
    obtain ⟨hb, e⟩ := of_pinsAt z
    obtain ⟨f0, f1, f2, _⟩ := hf p.1 hb
    obtain ⟨o, e', d⟩ := ho p.1 hb
    rw [e] at e'; cases e'
    exact ⟨e, f0, f1, f2, d⟩
theorem Inv.unpinned {pins pl : List (Addr × Obj)} {σ : St} {H : Hp} {s : Shared} (I : Inv X (pins ++ pl) σ H s) : Inv X pins σ H s := I.pins_of fun p hp => I.pin p (List.mem_append_right _ (List.mem_append_left _ hp))
theorem ps_for {iter : Expr} {body : List Stmt} {wi : TI} {g : TG} {tb : TS} {pos : Pos} (hp : PassesOwn (model X.prog X.w) X.A X.env X.xe) (hc : X.calm = true) (hi : PI X tg iter wi) (hg : PG X tg g) (hb : PSs X body tb)
    (hs : ∀ x, foldedSetIterable iter X.env x = pure x := by intro _; rfl) : PS X (.For tg iter body [] pos) (tFor wi g tb) := by
  intro pins s σ H D I h
  refine wpAny_For (thn (hi pins s σ H _ I h) fun v s1 h1 => thn h1 fun itv s2 h2 => ?_) hs
  obtain ⟨it, fp, tn, J, H2, e, I2, T, st2, f2, W, ⟨m0, w0⟩, turn⟩ := h2
  subst e
  -- what stays true of the iterator's objects through the loop
  have stat : ∀ {H' : Hp}, (∀ b ∈ fp, H' b = none) → ∀ b ∈ fp, FpOk X pins H' b := fun hn b hb => ⟨hn b hb, (f2 b hb).2⟩
  refine codeAny_forLoop_any (fun n s' => ∃ i σ' H', Inv X pins σ' H' s' ∧ tn i s'.heap ∧ (∀ b ∈ fp, H' b = none) ∧ W i n σ' H') ?_ m0 ⟨0, σ, H2, I2, st2, fun b hb => (f2 b hb).1, w0⟩
  rintro n s3 ⟨i, σ3, H3, I3, st3, fr3, w3⟩
  rcases turn i n σ3 H3 w3 with ⟨stop, qn⟩ | ⟨go, N, hN, step⟩
  · refine wpAny_passesOwn hp (thn (T.done X rfl rfl rfl hc i pins s3 σ3 H3 X.xe I3 (stat fr3) st3 stop) fun r s4 ⟨hr, I4⟩ => ?_)
    subst hr
    exact wpAny_execs_nil ⟨σ3, H3, I4, qn⟩
  · refine wpAny_passesOwn hp (thn (T.item X rfl rfl rfl hc i pins s3 σ3 H3 X.xe I3 (stat fr3) st3 go) fun r s4 ⟨u, hr, h4⟩ => ?_)
    subst hr
    refine wpAny_passesOwn hp (thn h4 fun _ s5 ⟨x, H5, I5, r5, y5, st5, fr5⟩ => ?_)
    have I5' := I5.pinned (stat fr5) (T.obj _ _ st5)
    refine wpAny_passesOwn hp (thn (hg _ s5 σ3 H5 x u _ I5' r5 (step x H5 y5)) fun _ s6 ⟨σ6, H6, I6, q6⟩ => ?_)
    refine wpAny_passesOwn hp (thn (hb _ s6 σ6 H6 _ I6 q6) fun f s7 q7 => ?_)
    have again : ∀ {σ7 : St} {H7 : Hp}, Inv X (pins ++ pinsAt fp s5.heap) σ7 H7 s7 → N σ7 H7 → ∃ m, m < n ∧ ∃ i σ' H', Inv X pins σ' H' s7 ∧ tn i s7.heap ∧ (∀ b ∈ fp, H' b = none) ∧ W i m σ' H' := fun {σ7 H7} I7 n7 => by
      obtain ⟨m', hm, w7⟩ := hN σ7 H7 n7
      refine ⟨m', hm, i + 1, σ7, H7, I7.unpinned, T.keep _ _ _ st5 fun b hb o e => (I7.pin (b, o) (List.mem_append_right _ (List.mem_append_right _ (mem_pinsAt hb e)))).1, fun b hb => ?_, w7⟩
      obtain ⟨o, e, d⟩ := T.obj _ _ st5 b hb
      exact (I7.pin (b, o) (List.mem_append_right _ (List.mem_append_right _ (mem_pinsAt hb e)))).2.1
    cases f with
    | next => obtain ⟨σ7, H7, I7, n7⟩ := q7; exact again I7 n7
    | cont => obtain ⟨σ7, H7, I7, n7⟩ := q7; exact again I7 n7
    | brk => obtain ⟨σ7, H7, I7, q7⟩ := q7; exact ⟨σ7, H7, I7.unpinned, q7⟩
    | ret v => obtain ⟨x7, σ7, H7, I7, r7, q7⟩ := q7; exact ⟨x7, σ7, H7, I7.unpinned, r7, q7⟩
end

/-! ### the forms one uses -/
/-- over a list that the body leaves as it is -/
theorem for_list {K : PySem.W.Frag} {a : Addr} {xs : List V} {g : TG} {tb : TS} {D : Ends} {σ : St} {H : Hp} (Pv : Nat → St → Hp → Prop) (h0 : Pv 0 σ H) (hl : ∀ i σ H, i ≤ xs.length → Pv i σ H → SqL K H a xs)
    (hs : ∀ i x σ H, xs[i]? = some x → Pv i σ H → g x σ H fun σ2 H2 => tb { D with nx := Pv (i + 1), ct := Pv (i + 1), bk := D.nx } σ2 H2) (hd : ∀ σ H, Pv xs.length σ H → D.nx σ H) :
    ∃ W : Nat → Nat → St → Hp → Prop, (∃ m, W 0 m σ H) ∧ ∀ i m σ H, W i m σ H →
      ((Itl K a).stop i H ∧ D.nx σ H) ∨ ((Itl K a).go i H ∧ ∃ N : St → Hp → Prop, (∀ σ' H', N σ' H' → ∃ m', m' < m ∧ W (i + 1) m' σ' H') ∧ ∀ x H', (Itl K a).yld i H x H' → g x σ H' fun σ2 H2 => tb { D with nx := N, ct := N, bk := D.nx } σ2 H2) := by
  refine ⟨fun i m σ H => m = xs.length - i ∧ i ≤ xs.length ∧ Pv i σ H, ⟨xs.length, by simp, Nat.zero_le _, h0⟩, ?_⟩
  rintro i m σ H ⟨rfl, hi, p⟩
  have q := hl i σ H hi p
  by_cases hlt : i < xs.length
  · refine .inr ⟨⟨xs, xs[i], q, by simp [hlt]⟩, Pv (i + 1), fun σ' H' p' => ⟨xs.length - (i + 1), by omega, rfl, hlt, p'⟩, fun x H' y => ?_⟩
    obtain ⟨e, y⟩ := y
    subst e
    exact hs i x σ _ (y xs q) p
  · have e : i = xs.length := by omega
    subst e
    exact .inl ⟨⟨xs, q, Nat.le_refl _⟩, hd σ H p⟩
theorem for_tup {K : PySem.W.Frag} {a : Addr} {xs : List V} {g : TG} {tb : TS} {D : Ends} {σ : St} {H : Hp} (Pv : Nat → St → Hp → Prop) (h0 : Pv 0 σ H) (hl : ∀ i σ H, i ≤ xs.length → Pv i σ H → SqT K H a xs)
    (hs : ∀ i x σ H, xs[i]? = some x → Pv i σ H → g x σ H fun σ2 H2 => tb { D with nx := Pv (i + 1), ct := Pv (i + 1), bk := D.nx } σ2 H2) (hd : ∀ σ H, Pv xs.length σ H → D.nx σ H) :
    ∃ W : Nat → Nat → St → Hp → Prop, (∃ m, W 0 m σ H) ∧ ∀ i m σ H, W i m σ H →
      ((Itt K a).stop i H ∧ D.nx σ H) ∨ ((Itt K a).go i H ∧ ∃ N : St → Hp → Prop, (∀ σ' H', N σ' H' → ∃ m', m' < m ∧ W (i + 1) m' σ' H') ∧ ∀ x H', (Itt K a).yld i H x H' → g x σ H' fun σ2 H2 => tb { D with nx := N, ct := N, bk := D.nx } σ2 H2) := by
  refine ⟨fun i m σ H => m = xs.length - i ∧ i ≤ xs.length ∧ Pv i σ H, ⟨xs.length, by simp, Nat.zero_le _, h0⟩, ?_⟩
  rintro i m σ H ⟨rfl, hi, p⟩
  have q := hl i σ H hi p
  by_cases hlt : i < xs.length
  · refine .inr ⟨⟨xs, xs[i], q, by simp [hlt]⟩, Pv (i + 1), fun σ' H' p' => ⟨xs.length - (i + 1), by omega, rfl, hlt, p'⟩, fun x H' y => ?_⟩
    obtain ⟨e, y⟩ := y
    subst e
    exact hs i x σ _ (y xs q) p
  · have e : i = xs.length := by omega
    subst e
    exact .inl ⟨⟨xs, q, Nat.le_refl _⟩, hd σ H p⟩
theorem for_range {lo : Int} {n : Nat} {g : TG} {tb : TS} {D : Ends} {σ : St} {H : Hp} (Pv : Nat → St → Hp → Prop) (h0 : Pv 0 σ H)
    (hs : ∀ i σ H, i < n → Pv i σ H → g (.int (lo + i)) σ H fun σ2 H2 => tb { D with nx := Pv (i + 1), ct := Pv (i + 1), bk := D.nx } σ2 H2) (hd : ∀ σ H, Pv n σ H → D.nx σ H) :
    ∃ W : Nat → Nat → St → Hp → Prop, (∃ m, W 0 m σ H) ∧ ∀ i m σ H, W i m σ H →
      ((Itr lo n).stop i H ∧ D.nx σ H) ∨ ((Itr lo n).go i H ∧ ∃ N : St → Hp → Prop, (∀ σ' H', N σ' H' → ∃ m', m' < m ∧ W (i + 1) m' σ' H') ∧ ∀ x H', (Itr lo n).yld i H x H' → g x σ H' fun σ2 H2 => tb { D with nx := N, ct := N, bk := D.nx } σ2 H2) := by
  refine ⟨fun i m σ H => m = n - i ∧ i ≤ n ∧ Pv i σ H, ⟨n, by simp, Nat.zero_le _, h0⟩, ?_⟩
  rintro i m σ H ⟨rfl, hi, p⟩
  by_cases hlt : i < n
  · refine .inr ⟨hlt, Pv (i + 1), fun σ' H' p' => ⟨n - (i + 1), by omega, rfl, hlt, p'⟩, fun x H' y => ?_⟩
    obtain ⟨e, y⟩ := y
    subst e y
    exact hs i σ _ hlt p
  · have e : i = n := by omega
    subst e
    exact .inl ⟨Nat.le_refl _, hd σ H p⟩
end L2

namespace L2
open PySem PySem.Spec PyProof.Rows

abbrev R2 := V → V → Hp → VK → Prop
/-- a two-place operation on values: f is binaryOp op, inplaceOp op or compareOp op -/
def OpR (X : Cx) (f : Value → Value → Sem Value) (r : R2) : Prop :=
  ∀ (pins : List (Addr × Obj)) (s : Shared) (σ : St) (H : Hp) (x y : V) (v u : Value) (Q : VK), Inv X pins σ H s → RelV x v → RelV y u → r x y H Q →
    wpAny (model X.prog X.w) X.A (f v u) (EP X pins σ Q) X.xe s
/-- a one-place operation -/
def UnR (X : Cx) (f : Value → Sem Value) (r : V → Hp → VK → Prop) : Prop :=
  ∀ (pins : List (Addr × Obj)) (s : Shared) (σ : St) (H : Hp) (x : V) (v : Value) (Q : VK), Inv X pins σ H s → RelV x v → r x H Q →
    wpAny (model X.prog X.w) X.A (f v) (EP X pins σ Q) X.xe s
/-- a call of a value that is known (a builtin, a type) with values -/
def CallR (X : Cx) (f : Value) (r : List V → Hp → VK → Prop) : Prop :=
  ∀ (pins : List (Addr × Obj)) (s : Shared) (σ : St) (H : Hp) (xs : List V) (us : List Value) (Q : VK), Inv X pins σ H s → Vals xs us → r xs H Q →
    wpAny (model X.prog X.w) X.A (call f us) (EP X pins σ Q) X.xe s
/-- a value's truth -/
def TruR (X : Cx) (r : V → Hp → (Bool → Hp → Prop) → Prop) : Prop :=
  ∀ (pins : List (Addr × Obj)) (s : Shared) (σ : St) (H : Hp) (x : V) (v : Value) (Q : Bool → Hp → Prop), Inv X pins σ H s → RelV x v → r x H Q →
    wpAny (model X.prog X.w) X.A (truthy v) (TP X pins σ Q) X.xe s

def tOp (r : R2) (ta tb : TE) : TE := fun σ H Q => ta σ H fun x H1 => tb σ H1 fun y H2 => r x y H2 Q
def tUn (r : V → Hp → VK → Prop) (ta : TE) : TE := fun σ H Q => ta σ H fun x H1 => r x H1 Q
/-- ints in, under C, and a value out -/
def rI (C : Int → Int → Prop) (g : Int → Int → V) : R2 := fun x y H Q => ∃ i j, x = .int i ∧ y = .int j ∧ C i j ∧ Q (g i j) H
def rI0 (g : Int → Int → V) : R2 := fun x y H Q => ∃ i j, x = .int i ∧ y = .int j ∧ Q (g i j) H
def rU (g : Int → V) : V → Hp → VK → Prop := fun x H Q => ∃ i, x = .int i ∧ Q (g i) H

section
variable {X : Cx} {a b c : Expr} {ta tb tc : TE} {pos : Pos}

theorem binT (ha : PE X a ta) (hb : PE X b tb) {pins : List (Addr × Obj)} {s : Shared} {σ : St} {H : Hp} {R : V → V → Hp → Prop} (I : Inv X pins σ H s)
    (h : ta σ H fun x H1 => tb σ H1 fun y H2 => R x y H2) {Q : Value → Shared → Prop} {f : Value → Value → Sem Value}
    (hf : ∀ v u s2 x y H2, Inv X pins σ H2 s2 → RelV x v → RelV y u → R x y H2 → wpAny (model X.prog X.w) X.A (f v u) Q X.xe s2) :
    wpAny (model X.prog X.w) X.A (eval a X.env) (fun v s₁ => wpAny (model X.prog X.w) X.A (eval b X.env) (fun u s₂ => wpAny (model X.prog X.w) X.A (f v u) Q X.xe s₂) X.xe s₁) X.xe s := by
  refine thn (ha pins s σ H _ I h) fun v s1 ⟨x, H1, I1, r1, q1⟩ => ?_
  refine thn (hb pins s1 σ H1 _ I1 q1) fun u s2 ⟨y, H2, I2, r2, q2⟩ => ?_
  exact hf v u s2 x y H2 I2 r1 r2 q2

theorem pe_op {op : Operator} {r : R2} (ho : OpR X (binaryOp op) r) (ha : PE X a ta) (hb : PE X b tb) : PE X (.BinOp a op b pos) (tOp r ta tb) := by
  intro pins s σ H Q I h
  exact wpAny_BinOp (binT ha hb I h fun v u s2 x y H2 I2 rx ry q => ho pins s2 σ H2 x y v u Q I2 rx ry q)
theorem pe_un {op : UnaryOp} {r : V → Hp → VK → Prop} (ho : UnR X (unaryOp op) r) (ha : PE X a ta) : PE X (.UnaryOp op a pos) (tUn r ta) := by
  intro pins s σ H Q I h
  exact UnaryOp_ (thn (ha pins s σ H _ I h) fun v s1 ⟨x, H1, I1, r1, q1⟩ => ho pins s1 σ H1 x v Q I1 r1 q1)
/-! ### ints -/
theorem opI {f : Value → Value → Sem Value} {C : Int → Int → Prop} {g : Int → Int → Int}
    (rule : ∀ (i j : Int) (t u : Tok) (s : Shared) (Q : Value → Shared → Prop) (E : Value → Shared → Prop), C i j → Q (.int (g i j) s.toks) { s with toks := s.toks + 1 } → wpAny (model X.prog X.w) X.A (f (.int i t) (.int j u)) Q E s) :
    OpR X f (rI C fun i j => .int (g i j)) := by
  intro pins s σ H x y v u Q I rx ry h
  obtain ⟨i, j, rfl, rfl, hc, q⟩ := h
  obtain ⟨t, rfl⟩ := rx
  obtain ⟨t', rfl⟩ := ry
  exact rule i j t t' s _ _ hc ⟨.int (g i j), H, I.tok _, ⟨_, rfl⟩, q⟩
theorem opI0 {f : Value → Value → Sem Value} {g : Int → Int → Int}
    (rule : ∀ (i j : Int) (t u : Tok) (s : Shared) (Q : Value → Shared → Prop) (E : Value → Shared → Prop), Q (.int (g i j) s.toks) { s with toks := s.toks + 1 } → wpAny (model X.prog X.w) X.A (f (.int i t) (.int j u)) Q E s) :
    OpR X f (rI0 fun i j => .int (g i j)) := by
  intro pins s σ H x y v u Q I rx ry h
  obtain ⟨i, j, rfl, rfl, q⟩ := h
  obtain ⟨t, rfl⟩ := rx
  obtain ⟨t', rfl⟩ := ry
  exact rule i j t t' s _ _ ⟨.int (g i j), H, I.tok _, ⟨_, rfl⟩, q⟩
theorem opB0 {f : Value → Value → Sem Value} {g : Int → Int → Bool}
    (rule : ∀ (i j : Int) (t u : Tok) (s : Shared) (Q : Value → Shared → Prop) (E : Value → Shared → Prop), Q (.bool (g i j)) s → wpAny (model X.prog X.w) X.A (f (.int i t) (.int j u)) Q E s) :
    OpR X f (rI0 fun i j => .bl (g i j)) := by
  intro pins s σ H x y v u Q I rx ry h
  obtain ⟨i, j, rfl, rfl, q⟩ := h
  obtain ⟨t, rfl⟩ := rx
  obtain ⟨t', rfl⟩ := ry
  exact rule i j t t' s _ _ ⟨.bl (g i j), H, I, rfl, q⟩

def CPow (i j : Int) : Prop := 0 ≤ j ∧ j ≤ 1000000 ∧ i.natAbs < 2 ^ 64
def CMul (i j : Int) : Prop := (-(2 ^ 64) < i ∧ i < 2 ^ 64) ∨ (-(2 ^ 64) < j ∧ j < 2 ^ 64)
theorem CMul.ok {i j : Int} (h : CMul i j) : IntMulOk i j := by
  rcases h with ⟨h1, h2⟩ | ⟨h1, h2⟩
  · exact .of_left (intBits_le_64 h1 h2)
  · exact .of_right (intBits_le_64 h1 h2)
theorem op_add : OpR X (binaryOp .Add) (rI0 fun i j => .int (i + j)) := opI0 fun _ _ _ _ _ _ _ q => add_int q
theorem op_sub : OpR X (binaryOp .Sub) (rI0 fun i j => .int (i - j)) := opI0 fun _ _ _ _ _ _ _ q => sub_int q
theorem op_mul : OpR X (binaryOp .Mult) (rI CMul fun i j => .int (i * j)) := opI fun _ _ _ _ _ _ _ hc q => mul_int q hc.ok
/-- % by a positive divisor of any size -/
theorem op_mod : OpR X (binaryOp .Mod) (rI (fun _ j => 0 < j) fun i j => .int (i % j)) := opI fun i j _ _ _ _ _ hc q => by
  have h1 : (0 : Int) < j := hc
  exact mod_int' (by omega) (by rw [Int.fmod_eq_emod_of_nonneg i (by omega)]; exact q)
theorem op_pow : OpR X (binaryOp .Pow) (rI CPow fun i j => .int (i ^ j.toNat)) := opI fun _ _ _ _ _ _ _ hc q => pow_int_small hc.1 hc.2.1 hc.2.2 q
theorem unI {f : Value → Sem Value} {g : Int → Int}
    (rule : ∀ (i : Int) (t : Tok) (s : Shared) (Q : Value → Shared → Prop) (E : Value → Shared → Prop), Q (.int (g i) s.toks) { s with toks := s.toks + 1 } → wpAny (model X.prog X.w) X.A (f (.int i t)) Q E s) :
    UnR X f (rU fun i => .int (g i)) := by
  intro pins s σ H x v Q I rx h
  obtain ⟨i, rfl, q⟩ := h
  obtain ⟨t, rfl⟩ := rx
  exact rule i t s _ _ ⟨.int (g i), H, I.tok _, ⟨_, rfl⟩, q⟩
theorem un_neg : UnR X (unaryOp .USub) (rU fun i => .int (-i)) := unI fun _ _ _ _ _ q => neg_int q
/-! ### bools among ints: n += (a < b) -/
end

/-! ### comparisons -/
/-- the scalars that == tells apart as data does -/
def scal : V → V → Bool
  | .non, .non => true | .non, .int _ => true | .int _, .non => true | .non, .bl _ => true | .bl _, .non => true | .non, .str _ => true | .str _, .non => true
  | .int _, .int _ => true | .bl _, .bl _ => true | .str _, .str _ => true | .byt _, .byt _ => true
  | .int _, .str _ => true | .str _, .int _ => true | .bl _, .str _ => true | .str _, .bl _ => true
  | _, _ => false
def rEq : R2 := fun x y H Q => scal x y = true ∧ Q (.bl (decide (x = y))) H
def rNe : R2 := fun x y H Q => scal x y = true ∧ Q (.bl (!decide (x = y))) H

theorem dec_int {i j : Int} : decide (V.int i = V.int j) = (i == j) := by
  rw [Bool.eq_iff_iff]
  simp
theorem dec_bl {i j : Bool} : decide (V.bl i = V.bl j) = (i == j) := by
  rw [Bool.eq_iff_iff]
  simp
theorem dec_str {i j : Str} : decide (V.str i = V.str j) = (i == j) := by
  rw [Bool.eq_iff_iff]
  simp
theorem dec_byt {i j : Array UInt8} : decide (V.byt i = V.byt j) = (i.toList == j.toList) := by
  rw [Bool.eq_iff_iff]
  cases i
  cases j
  simp

section
variable {X : Cx} {a b c : Expr} {ta tb tc : TE} {pos : Pos}
theorem fin_bl {pins : List (Addr × Obj)} {σ : St} {H : Hp} {s : Shared} {Q : VK} {k k' : Bool} (I : Inv X pins σ H s) (q : Q (.bl k) H) (e : k = k') : EP X pins σ Q (.bool k') s := by
  subst e
  exact ⟨.bl k, H, I, rfl, q⟩
theorem op_eq : OpR X (compareOp .Eq) rEq := by
  intro pins s σ H x y v u Q I rx ry h
  obtain ⟨hs, q⟩ := h
  cases x with
  | non =>
    cases rx
    cases y with
    | non => cases ry; exact PySem.EqNone.eq_none_none (fin_bl I q (by simp))
    | bl j => cases ry; exact PySem.EqNone.eq_none_bool (fin_bl I q (by simp))
    | int j => obtain ⟨t', rfl⟩ := ry; exact PySem.EqNone.eq_none_int (fin_bl I q (by simp))
    | str j => obtain ⟨t', rfl⟩ := ry; exact PySem.EqNone.eq_none_str (fin_bl I q (by simp))
    | _ => exact absurd (show false = true from hs) Bool.false_ne_true
  | bl i =>
    cases rx
    cases y with
    | non => cases ry; exact PySem.EqNone.eq_bool_none (fin_bl I q (by simp))
    | bl j => cases ry; exact eq_bool (fin_bl I q dec_bl)
    | str j => obtain ⟨t', rfl⟩ := ry; exact PySem.EqMixed.eq_bool_str (fin_bl I q (by simp))
    | _ => exact absurd (show false = true from hs) Bool.false_ne_true
  | int i =>
    obtain ⟨t, rfl⟩ := rx
    cases y with
    | non => cases ry; exact PySem.EqNone.eq_int_none (fin_bl I q (by simp))
    | int j => obtain ⟨t', rfl⟩ := ry; exact eq_int (fin_bl I q dec_int)
    | str j => obtain ⟨t', rfl⟩ := ry; exact PySem.EqMixed.eq_int_str (fin_bl I q (by simp))
    | _ => exact absurd (show false = true from hs) Bool.false_ne_true
  | str i =>
    obtain ⟨t, rfl⟩ := rx
    cases y with
    | non => cases ry; exact PySem.EqNone.eq_str_none (fin_bl I q (by simp))
    | bl j => cases ry; exact PySem.EqMixed.eq_str_bool (fin_bl I q (by simp))
    | int j => obtain ⟨t', rfl⟩ := ry; exact PySem.EqMixed.eq_str_int (fin_bl I q (by simp))
    | str j => obtain ⟨t', rfl⟩ := ry; exact eq_str (fin_bl I q dec_str)
    | _ => exact absurd (show false = true from hs) Bool.false_ne_true
  | byt i =>
    obtain ⟨t, rfl⟩ := rx
    cases y with
    | byt j => obtain ⟨t', rfl⟩ := ry; exact PySem.W.eq_bytes (fin_bl I q dec_byt)
    | _ => exact absurd (show false = true from hs) Bool.false_ne_true
  | _ => cases y <;> exact absurd (show false = true from hs) Bool.false_ne_true
theorem op_ne : OpR X (compareOp .NotEq) rNe := by
  intro pins s σ H x y v u Q I rx ry h
  obtain ⟨hs, q⟩ := h
  cases x with
  | non =>
    cases rx
    cases y with
    | non => cases ry; exact PySem.EqNone.ne_none_none (fin_bl I q (by simp))
    | bl j => cases ry; exact PySem.EqNone.ne_none_bool (fin_bl I q (by simp))
    | int j => obtain ⟨t', rfl⟩ := ry; exact PySem.EqNone.ne_none_int (fin_bl I q (by simp))
    | str j => obtain ⟨t', rfl⟩ := ry; exact PySem.EqNone.ne_none_str (fin_bl I q (by simp))
    | _ => exact absurd (show false = true from hs) Bool.false_ne_true
  | bl i =>
    cases rx
    cases y with
    | non => cases ry; exact PySem.EqNone.ne_bool_none (fin_bl I q (by simp))
    | bl j => cases ry; exact ne_bool (fin_bl I q (congrArg not dec_bl))
    | str j => obtain ⟨t', rfl⟩ := ry; exact PySem.EqMixed.ne_bool_str (fin_bl I q (by simp))
    | _ => exact absurd (show false = true from hs) Bool.false_ne_true
  | int i =>
    obtain ⟨t, rfl⟩ := rx
    cases y with
    | non => cases ry; exact PySem.EqNone.ne_int_none (fin_bl I q (by simp))
    | int j => obtain ⟨t', rfl⟩ := ry; exact ne_int (fin_bl I q (congrArg not dec_int))
    | str j => obtain ⟨t', rfl⟩ := ry; exact PySem.EqMixed.ne_int_str (fin_bl I q (by simp))
    | _ => exact absurd (show false = true from hs) Bool.false_ne_true
  | str i =>
    obtain ⟨t, rfl⟩ := rx
    cases y with
    | non => cases ry; exact PySem.EqNone.ne_str_none (fin_bl I q (by simp))
    | bl j => cases ry; exact PySem.EqMixed.ne_str_bool (fin_bl I q (by simp))
    | int j => obtain ⟨t', rfl⟩ := ry; exact PySem.EqMixed.ne_str_int (fin_bl I q (by simp))
    | str j => obtain ⟨t', rfl⟩ := ry; exact ne_str (fin_bl I q (congrArg not dec_str))
    | _ => exact absurd (show false = true from hs) Bool.false_ne_true
  | byt i =>
    obtain ⟨t, rfl⟩ := rx
    cases y with
    | byt j => obtain ⟨t', rfl⟩ := ry; exact PySem.W.ne_bytes (fin_bl I q (congrArg not dec_byt))
    | _ => exact absurd (show false = true from hs) Bool.false_ne_true
  | _ => cases y <;> exact absurd (show false = true from hs) Bool.false_ne_true

theorem op_lt : OpR X (compareOp .Lt) (rI0 fun i j => .bl (decide (i < j))) := opB0 fun _ _ _ _ _ _ _ q => lt_int q
theorem op_le : OpR X (compareOp .LtE) (rI0 fun i j => .bl (decide (i ≤ j))) := opB0 fun _ _ _ _ _ _ _ q => le_int q
theorem op_gt : OpR X (compareOp .Gt) (rI0 fun i j => .bl (decide (j < i))) := opB0 fun _ _ _ _ _ _ _ q => gt_int q
theorem op_ge : OpR X (compareOp .GtE) (rI0 fun i j => .bl (decide (j ≤ i))) := opB0 fun _ _ _ _ _ _ _ q => ge_int q
/-- is None, is not None: the right side a value none -/
theorem op_isN : OpR X (compareOp .Is) (fun x y H Q => y = .non ∧ Q (.bl (decide (x = .non))) H) := by
  intro pins s σ H x y v u Q I rx ry h
  obtain ⟨rfl, q⟩ := h
  cases ry
  refine is_none_gen (fin_bl I q ?_)
  cases x <;> first
    | (cases rx; rfl)
    | (obtain ⟨t, rfl⟩ := rx; rfl)
theorem nomark (b : Expr) {op : CmpOp} (h : op ≠ .In := by decide) (h2 : op ≠ .NotIn := by decide) : behindInMarks op b = false := by
  have e1 : (op == CmpOp.In) = false := by cases op <;> first | rfl | exact absurd rfl h
  have e2 : (op == CmpOp.NotIn) = false := by cases op <;> first | rfl | exact absurd rfl h2
  cases b <;> simp [behindInMarks, e1, e2]
/-- a comparison as a value; hm: nomark b, or (for in, not in) by with_unfolding_all rfl -/
theorem pe_cmpR {op : CmpOp} {r : R2} (ho : OpR X (compareOp op) r) (ha : PE X a ta) (hb : PE X b tb) (hm : behindInMarks op b = false) : PE X (.Compare a [op] [b] pos) (tOp r ta tb) := by
  intro pins s σ H Q I h
  exact wpAny_Compare1 (binT ha hb I h fun v u s2 x y H2 I2 rx ry q => ho pins s2 σ H2 x y v u Q I2 rx ry q) hm
/-! ### truth -/
/-- a value's truth by the abstract heap -/
def TruV (K : PySem.W.Frag) (x : V) (H : Hp) (k : Bool) : Prop :=
  match x with
  | .non => k = false
  | .bl b => k = b
  | .int i => k = (i != 0)
  | .str y => y.length ≤ sizeLine ∧ k = ((y.length : Int) != 0)
  | .byt y => y.size ≤ sizeLine ∧ k = ((y.size : Int) != 0)
  | .ref p => (∃ xs, SqL K H p xs ∧ k = !xs.isEmpty) ∨ (∃ xs, SqT K H p xs ∧ k = !xs.isEmpty) ∨ ∃ kvs, H p = some (.dK kvs) ∧ k = !kvs.isEmpty
  | _ => False
theorem isEmpty_kv {κ : Type} {kvs : List (κ × V)} {vs : List (κ × Value)} (r : KV kvs vs) : (!vs.isEmpty) = !kvs.isEmpty := by
  cases r <;> rfl
theorem isEmpty_of {xs : List V} {its : List Value} (r : Vals xs its) : (!its.toArray.isEmpty) = !xs.isEmpty := by
  cases r <;> simp
theorem line63 : (sizeLine : Nat) < 2 ^ 63 := by rw [sizeLine_eq]; decide
theorem tru_ok : TruR X (fun x H Q => ∃ k, TruV X.K x H k ∧ Q k H) := by
  intro pins s σ H x v Q I rx h
  obtain ⟨k, e, q⟩ := h
  have hl := line63
  have hs : sizeLine = 16777216 := sizeLine_eq
  cases x with
  | non =>
    cases rx
    have e' : k = false := e
    subst e'
    exact truthy_none ⟨H, I, q⟩
  | bl b =>
    cases rx
    have e' : k = b := e
    subst e'
    exact wpAny_truthy_bool ⟨H, I, q⟩
  | int i =>
    obtain ⟨t, rfl⟩ := rx
    have e' : k = (i != 0) := e
    subst e'
    exact PySem.P.truthy_int ⟨H, I, q⟩
  | str y =>
    obtain ⟨t, rfl⟩ := rx
    obtain ⟨hy, e'⟩ : y.length ≤ sizeLine ∧ k = ((y.length : Int) != 0) := e
    subst e'
    exact PySem.P.truthy_str (by omega) ⟨H, I.tok _, q⟩
  | byt y =>
    obtain ⟨t, rfl⟩ := rx
    obtain ⟨hy, e'⟩ : y.size ≤ sizeLine ∧ k = ((y.size : Int) != 0) := e
    subst e'
    exact PySem.W.truthy_bytes (by omega) ⟨H, I.tok _, q⟩
  | ref p =>
    cases rx
    have e' : (∃ xs, SqL X.K H p xs ∧ k = !xs.isEmpty) ∨ (∃ xs, SqT X.K H p xs ∧ k = !xs.isEmpty) ∨ ∃ kvs, H p = some (.dK kvs) ∧ k = !kvs.isEmpty := e
    rcases e' with ⟨xs, hx, e'⟩ | ⟨xs, hx, e'⟩ | ⟨kvs, hx, e'⟩
    · subst e'
      obtain ⟨its, r, pl, hz⟩ := I.list hx
      have hlen := r.length
      exact wpAny_truthy_list pl.isList (by simp only [List.size_toArray]; omega) ⟨H, I.tok _, by rw [isEmpty_of r]; exact q⟩
    · subst e'
      obtain ⟨its, r, pl, hz⟩ := I.tuple hx
      have hlen := r.length
      exact truthy_tuple pl (by simp only [List.size_toArray]; omega) ⟨H, I.tok _, by rw [isEmpty_of r]; exact q⟩
    · subst e'
      obtain ⟨hz, hS, vs, r, m⟩ : kvs.length ≤ sizeLine ∧ (p == sysModules) = false ∧ ∃ vs, KV kvs vs ∧ s.heap.DictOf (mixKind X.prog X.w) p vs := I.hok p _ hx
      have hlen : kvs.length = vs.length := Paired.length r
      exact wpAny_truthy_dict hS m (by omega) ⟨H, I.tok _, by rw [isEmpty_kv r]; exact q⟩
  | _ => exact (show False from e).elim
/-! ### strs and bytes -/
theorem op_add_str : OpR X (binaryOp .Add) (fun x y H Q => ∃ i j, x = .str i ∧ y = .str j ∧ i.length + j.length ≤ sizeLine ∧ Q (.str (i ++ j)) H) := by
  intro pins s σ H x y v u Q I rx ry h
  obtain ⟨i, j, rfl, rfl, hz, q⟩ := h
  obtain ⟨t, rfl⟩ := rx
  obtain ⟨t', rfl⟩ := ry
  exact add_str (fun t' tk => ⟨.str (i ++ j), H, I.tok _, ⟨_, rfl⟩, q⟩) hz
/-! ### scalar builtins, by CallR -/
theorem vals1 {x : V} {us : List Value} (r : Vals [x] us) : ∃ u, us = [u] ∧ RelV x u := by
  cases r with
  | cons r1 r2 => cases r2; exact ⟨_, rfl, r1⟩
theorem vals2 {x y : V} {us : List Value} (r : Vals [x, y] us) : ∃ u w', us = [u, w'] ∧ RelV x u ∧ RelV y w' := by
  cases r with
  | cons r1 r2 =>
    cases r2 with
    | cons r3 r4 => cases r4; exact ⟨_, _, rfl, r1, r3⟩
theorem call_abs : CallR X (.builtin "abs") (fun xs H Q => ∃ i, xs = [.int i] ∧ Q (.int (if i < 0 then -i else i)) H) := by
  intro pins s σ H xs us Q I r h
  obtain ⟨i, rfl, q⟩ := h
  obtain ⟨u, rfl, t, rfl⟩ := vals1 r
  exact call_abs_int fun u tk => ⟨.int (if i < 0 then -i else i), H, I.tok _, ⟨_, rfl⟩, q⟩
theorem call_max2 (hc : X.calm = true) : CallR X (.builtin "max") (fun xs H Q => ∃ i j, xs = [.int i, .int j] ∧ Q (.int (if j > i then j else i)) H) := by
  intro pins s σ H xs us Q I r h
  obtain ⟨i, j, rfl, q⟩ := h
  obtain ⟨u, w', rfl, ⟨t, rfl⟩, ⟨t', rfl⟩⟩ := vals2 r
  refine max_two_ints (I.ok.hd hc) fun h' tk k => ⟨_, H, I.kept k, ?_, q⟩
  by_cases hj : j > i
  · rw [if_pos hj, if_pos hj]; exact ⟨_, rfl⟩
  · rw [if_neg hj, if_neg hj]; exact ⟨_, rfl⟩
theorem call_min2 (hc : X.calm = true) : CallR X (.builtin "min") (fun xs H Q => ∃ i j, xs = [.int i, .int j] ∧ Q (.int (if j < i then j else i)) H) := by
  intro pins s σ H xs us Q I r h
  obtain ⟨i, j, rfl, q⟩ := h
  obtain ⟨u, w', rfl, ⟨t, rfl⟩, ⟨t', rfl⟩⟩ := vals2 r
  refine min_two_ints (I.ok.hd hc) fun h' tk k => ⟨_, H, I.kept k, ?_, q⟩
  by_cases hj : j < i
  · rw [if_pos hj, if_pos hj]; exact ⟨_, rfl⟩
  · rw [if_neg hj, if_neg hj]; exact ⟨_, rfl⟩
theorem call_int1 : CallR X (.type "int") (fun xs H Q => (∃ i, xs = [.int i] ∧ Q (.int i) H) ∨ ∃ k, xs = [.bl k] ∧ Q (.int (if k then 1 else 0)) H) := by
  intro pins s σ H xs us Q I r h
  rcases h with ⟨i, rfl, q⟩ | ⟨k, rfl, q⟩
  · obtain ⟨u, rfl, t, rfl⟩ := vals1 r
    exact call_int_int ⟨.int i, H, I, ⟨_, rfl⟩, q⟩
  · obtain ⟨u, rfl, r1⟩ := vals1 r
    cases r1
    exact call_int_bool ⟨.int (if k then 1 else 0), H, I.tok _, ⟨_, rfl⟩, q⟩
end
end L2

namespace L2
open PySem PySem.Spec PyProof.Rows

/-! ### an instance, its attributes a map -/
structure ObjM (h : Heap) (x dx C : Addr) (mA : Str → Option Value) : Prop where
  obj : h.get? x = some (PySem.W.instObj C dx)
  ns : h.Ns1 dx mA
  ne : dx ≠ x

theorem lookIn_ns {h : Heap} {dx : Addr} {mA : Str → Option Value} (n : h.Ns1 dx mA) : ∃ od, h.get? dx = some od ∧ ∀ name, PySem.W.lookIn name od = some (mA name) := by
  obtain ⟨o, es, ep, ho, hd, hk, _, hm⟩ := n
  refine ⟨o, ho, fun name => ?_⟩
  have e := hm name
  unfold nsFind findBy at e
  rw [← Array.find?_toList] at e
  unfold PySem.W.lookIn
  rw [hd]
  dsimp only
  split
  · rename_i y q
    rw [q] at e
    exact congrArg some e
  · rename_i q
    rw [q] at e
    have a : es.toList.any (·.refKey) = false := by
      rw [List.any_eq_false]
      intro y hy
      obtain ⟨z, t, hkey⟩ := hk y (Array.mem_toList_iff.mp hy)
      simp [DictEntry.refKey, hkey]
    have a' : ¬ es.toList.any (·.refKey) = true := by rw [a]; exact Bool.false_ne_true
    rw [if_neg a']
    exact congrArg some e

theorem ObjM.look {h : Heap} {x dx C : Addr} {mA : Str → Option Value} (I : ObjM h x dx C mA) : ∃ od, PySem.W.InstAt h x (PySem.W.instObj C dx) C (some od) ∧ ∀ name, PySem.W.lookIn name od = some (mA name) :=
  let ⟨od, ho, hl⟩ := lookIn_ns I.ns
  ⟨od, ⟨I.obj, rfl, rfl, ho⟩, hl⟩

section
variable {prog : Program} {w : World} {A : Around} {E : Value → Shared → Prop} {s : Shared} {K : PySem.W.Frag} {x dx C f : Addr} {mA : Str → Option Value} {name : Str} {v : Value}

end

/-! ### the attributes as a list of pairs -/
section
variable {P : Program} {w : World} {H H' : Hp} {h h' : Heap} {a C dx : Addr} {fs fs' : List (Str × V)}
theorem ins_get (hok : HOk P w H h) (e : H a = some (.ins C dx fs)) : ∃ mA, ObjM h a dx C mA ∧ (∀ f, RelO (fs.lookup f) (mA f)) ∧ PySem.Within mA (fs.map (·.1)) ∧ fs.length ≤ 1000 ∧ H dx = some (.own a) := by
  obtain ⟨d, z, ne, ob, mA, n, r, q⟩ := (show ObjOk P w H h a (.ins C dx fs) from hok a _ e)
  exact ⟨mA, ⟨ob, n, ne⟩, r, q, z, d⟩
end

/-! ### what of the text a class must have -/
structure Cls (K : PySem.W.Frag) (C : Addr) : Prop where
  pg : PySem.W.plainGet K C Str.empty = true
  hd : PySem.W.hasDictIn K C = true
  po : PySem.W.plainOver K C = true
  sa : PySem.W.findIn K (.ref C) "__setattr__" = some (some (.builtin "object.__setattr__"))
theorem Cls.get {K : PySem.W.Frag} {C : Addr} (c : Cls K C) (f : Str) : PySem.W.plainGet K C f = true := c.pg
/-- a constant of the class -/
structure Con (K : PySem.W.Frag) (C : Addr) (f : Str) (v : V) (u : Value) : Prop where
  at_ : PySem.W.findIn K (.ref C) f = some (some u)
  rel : RelV v u
  get : PySem.W.specialIn K u "__get__" = some none
  cp : PySem.W.copiedNames.contains f = false
/-- a method: a plain def of the class or of one above it -/
structure Meth (K : PySem.W.Frag) (C : Addr) (m : Str) (f : Addr) : Prop where
  at_ : PySem.W.findIn K (.ref C) m = some (some (.ref f))
  fn : PySem.W.isFn K (.ref f) = true
  kp : PySem.W.keepIn K (.ref f) = true

section
variable {X : Cx} {pins : List (Addr × Obj)} {σ : St} {H : Hp} {s : Shared} {a C dx : Addr} {fs : List (Str × V)} {f : Str} {v : V} {A : Around} {E : Value → Shared → Prop}

end

/-! ### readings and rules -/
section
variable {X : Cx} {o e value : Expr} {f : Str} {pos pos' tpos : Pos} {ta tv : TE}
end

/-! ### isinstance -/
section
variable {X : Cx} {pins : List (Addr × Obj)} {σ : St} {H : Hp} {s : Shared} {A : Around} {E : Value → Shared → Prop} {Q : Value → Shared → Prop} {c : Value} {b : Bool}
/-- the type of a value, as the fragment's deciders take it; for an instance its class -/
inductive TyOf (K : PySem.W.Frag) (H : Hp) : V → Value → Prop where
  | non : TyOf K H .non (.type "NoneType")
  | bl (x : Bool) : TyOf K H (.bl x) (.type "bool")
  | int (i : Int) : TyOf K H (.int i) (.type "int")
  | str (x : Str) : TyOf K H (.str x) (.type "str")
  | flt (x : UInt64) : TyOf K H (.flt x) (.type "float")
  | lst {a : Addr} {xs : List V} (e : H a = some (.lst xs)) : TyOf K H (.ref a) (.type "list")
  | frz {a : Addr} {o : Obj} {xs : List V} (e : H a = some (.frz o (.lst xs))) : TyOf K H (.ref a) (.type "list")
  | tup {a : Addr} {xs : List V} (e : H a = some (.tup xs)) : TyOf K H (.ref a) (.type "tuple")
  | dK {a : Addr} {kvs : List (Key × V)} (e : H a = some (.dK kvs)) : TyOf K H (.ref a) (.type "dict")
  | dT {a : Addr} {kvs : List (List Key × V)} (e : H a = some (.dT kvs)) : TyOf K H (.ref a) (.type "dict")
  | ins {a C dx : Addr} {fs : List (Str × V)} (e : H a = some (.ins C dx fs)) (cl : Cls K C) (ha : PySem.W.findIn K (.ref C) "__class__" = some (some (.builtin "object.__class__")))
      (hn : PySem.W.specialIn K (.builtin "object.__class__") "__get__" = some (some (.builtin "getset_descriptor.__get__"))) (htk : PySem.W.takesIn K (.builtin "object.__class__") = some true)
      (hm : PySem.W.mroIn K C (.type "object") = some true) : TyOf K H (.ref a) (.ref C)
/-- isinstance(x, c) for one class c, a built-in or an own one: kitOne's answer -/
theorem isinst_ok {x : V} {u t : Value} (I : Inv X pins σ H s) (rx : RelV x u) (ty : TyOf X.K H x t) (e : PySem.W.kitOne X.K t c = some b) (h : ∀ tk, Q (.bool b) { s with toks := tk }) :
    wpAny (model X.prog X.w) A (call (.builtin "isinstance") [u, c]) Q E s := by
  cases ty with
  | non => cases (show u = Value.none from rx); exact PySem.W.kia_one PySem.W.kitx_none I.kIn True.intro e (fun z => nomatch z) h
  | bl y => cases (show u = Value.bool y from rx); exact PySem.W.kia_one PySem.W.kitx_bool I.kIn True.intro e (fun z => nomatch z) h
  | int i => obtain ⟨t, q⟩ := (show ∃ t, u = Value.int i t from rx); cases q; exact PySem.W.kia_one PySem.W.kitx_int I.kIn True.intro e (fun z => nomatch z) h
  | str y => obtain ⟨t, q⟩ := (show ∃ t, u = Value.str y t from rx); cases q; exact PySem.W.kia_one PySem.W.kitx_str I.kIn True.intro e (fun z => nomatch z) h
  | flt y => obtain ⟨t, q⟩ := (show ∃ t, u = Value.float y t from rx); cases q; exact PySem.W.kia_one PySem.W.kitx_float I.kIn True.intro e (fun z => nomatch z) h
  | @lst a xs ea =>
    cases (show u = Value.ref a from rx)
    obtain ⟨_, _, n, _, h1⟩ := (show ObjOk X.prog X.w H s.heap a (.lst xs) from I.hok a _ ea)
    exact PySem.W.kia_one PySem.W.kitx_list I.kIn ⟨_, h1, rfl⟩ e (fun z => nomatch z) h
  | @frz a ob xs ea =>
    cases (show u = Value.ref a from rx)
    obtain ⟨_, _, _, n, _, h1⟩ := (show ObjOk X.prog X.w H s.heap a (.frz ob (.lst xs)) from I.hok a _ ea)
    exact PySem.W.kia_one PySem.W.kitx_list I.kIn ⟨_, h1, rfl⟩ e (fun z => nomatch z) h
  | @tup a xs ea =>
    cases (show u = Value.ref a from rx)
    obtain ⟨_, _, _, p⟩ := (show ObjOk X.prog X.w H s.heap a (.tup xs) from I.hok a _ ea)
    obtain ⟨o, h1, h2, _⟩ := p
    exact PySem.W.kia_one PySem.W.kitx_tuple I.kIn ⟨o, h1, h2⟩ e (fun z => nomatch z) h
  | @dK a kvs ea =>
    cases (show u = Value.ref a from rx)
    obtain ⟨_, _, vs, _, p⟩ := (show ObjOk X.prog X.w H s.heap a (.dK kvs) from I.hok a _ ea)
    obtain ⟨o, es, ep, h1, h2, _⟩ := p
    exact PySem.W.kia_one PySem.W.kitx_dict I.kIn ⟨o, h1, h2.1⟩ e (fun z => nomatch z) h
  | @dT a kvs ea =>
    cases (show u = Value.ref a from rx)
    obtain ⟨_, _, xs, _, o, es, ep, h1, h2, _⟩ := (show ObjOk X.prog X.w H s.heap a (.dT kvs) from I.hok a _ ea)
    exact PySem.W.kia_one PySem.W.kitx_dict I.kIn ⟨o, h1, h2.1⟩ e (fun z => nomatch z) h
  | @ins a C dx fs ea cl ha hn htk hm =>
    cases (show u = Value.ref a from rx)
    obtain ⟨mA, O, _⟩ := ins_get I.hok ea
    obtain ⟨od, J, _⟩ := O.look
    exact PySem.W.kia_one (PySem.W.kitx_own (cl.get _) cl.hd ha hn htk hm) I.kIn J e (fun z => nomatch z) h
end
end L2

namespace L2
open PySem PySem.Spec PyProof.Rows

/-! ### room -/
structure Room (k : Nat) (A : Around) : Prop where
  hd : A.handled = none
  dp : A.depth + 3 * k + 5 < recursionLimit
  un : A.units + 16 * k + 200 < cLine
  gd : A.guards = some []
theorem Room.mono {j k : Nat} {A : Around} (r : Room k A) (h : j ≤ k) : Room j A := ⟨r.hd, by have := r.dp; omega, by have := r.un; omega, r.gd⟩
theorem Room.deeper {k : Nat} {A : Around} (r : Room (k + 1) A) (env : Env) : Room k (A.deeper env) :=
  ⟨r.hd, by have := r.dp; show A.depth + 1 + 3 * k + 5 < _; omega, by have := r.un; show A.units + 3 + 16 * k + 200 < _; omega, r.gd⟩
theorem Room.depth {k : Nat} {A : Around} (r : Room k A) : A.depth < recursionLimit := by have := r.dp; omega
theorem Room.units {k : Nat} {A : Around} (r : Room k A) : A.units + 64 < cLine := by have := r.un; omega
theorem Room.units0 {k : Nat} {A : Around} (r : Room k A) : A.units < cLine := by have := r.un; omega

/-! ### argument lists and displays -/
def tNil : TA := fun _ H Q => Q [] H
def tCons (ta : TE) (tr : TA) : TA := fun σ H Q => ta σ H fun x H1 => tr σ H1 fun xs H2 => Q (x :: xs) H2
section
variable {X : Cx} {e : Expr} {es : List Expr} {te : TE} {t : TA} {pos : Pos}
theorem pa_nil : PA X [] tNil := fun _ _ _ _ H Q I h => Calls.spliced_nil ⟨[], H, I, .nil, h⟩
theorem pa_cons (ha : PE X e te) (hr : PA X es t) (hs : starEach (e :: es) X.env = (false, eval e X.env) :: starEach es X.env := by rfl) : PA X (e :: es) (tCons te t) := by
  intro pos pins s σ H Q I h
  rw [hs]
  show wpAny _ _ (spliced ((false, eval e X.env) :: backTo pos (starEach es X.env))) _ _ s
  refine Calls.spliced_cons (thn (ha pins s σ H _ I h) fun u s1 ⟨x, H1, I1, r1, q1⟩ => ?_)
  exact thn (hr pos pins s1 σ H1 _ I1 q1) fun us s2 ⟨xs, H2, I2, r2, q2⟩ => ⟨x :: xs, H2, I2, .cons r1 r2, q2⟩

/-- a tuple, a list of written items -/
def tTup (t : TA) : TE := fun σ H Q => t σ H fun xs H1 => xs.length ≤ sizeLine ∧ ∀ p, H1 p = none → Q (.ref p) (upd H1 p (.tup xs))
def tLst (t : TA) : TE := fun σ H Q => t σ H fun xs H1 => xs.length ≤ sizeLine ∧ ∀ p, H1 p = none → Q (.ref p) (upd H1 p (.lst xs))
theorem pe_tup {x1} (h : PA X es t) : PE X (.Tuple es x1 pos) (tTup t) := by
  intro pins s σ H Q I hq
  refine wpAny_Tuple_spliced (thn (h pos pins s σ H _ I hq) fun us s1 ⟨xs, H1, I1, r, z, q⟩ => ⟨by rw [← r.length]; exact z, ?_⟩)
  have hf : H1 s1.heap.objs.size = none := I1.hok.fresh (Nat.le_refl _)
  refine ⟨.ref s1.heap.objs.size, upd H1 s1.heap.objs.size (.tup xs), I1.laid (t' := s1.toks) (fun b u e => Heap.get?_push_of_some _ e) (Nat.le_refl _) ?_, rfl, q _ hf⟩
  exact ⟨z, us, r, ⟨_, Heap.get?_push_size _ rfl, rfl, _, rfl⟩⟩
theorem pe_lst (h : PA X es t) : PE X (.List es pos) (tLst t) := by
  intro pins s σ H Q I hq
  refine wpAny_List_spliced (thn (h pos pins s σ H _ I hq) fun us s1 ⟨xs, H1, I1, r, z, q⟩ => ⟨by rw [← r.length]; exact z, ?_⟩)
  have hf : H1 s1.heap.objs.size = none := I1.hok.fresh (Nat.le_refl _)
  refine ⟨.ref s1.heap.objs.size, upd H1 s1.heap.objs.size (.lst xs), I1.laid (t' := s1.toks) (fun b u e => Heap.get?_push_of_some _ e) (Nat.le_refl _) ?_, rfl, q _ hf⟩
  exact ⟨z, us, 0, r, Heap.get?_push_size _ rfl⟩
end

/-! ### what a def promises -/
/-- a def's promise: the bound arguments in the parameters' order, the heap, the wanted end, the wanted exception -/
abbrev Sp := List V → Hp → VK → XK → Prop
/-- how an exception lies behind a call (file 08 gives it): the callers' frames, abstract heap and state ahead of the call, the wish, the exception, the state -/
abbrev CXT := List Env → Hp → Shared → XK → Value → Shared → Prop

/-- the state at a call -/
structure Env0 (P : Program) (w : World) (K : PySem.W.Frag) (mg : Str → Option Value) (base : Heap) (A : Around) (outer : List Env) (s : Shared) (H : Hp) : Prop where
  frames : A.frames = some outer
  mod : Mod K mg base
  bs : ∀ b o, base.get? b = some o → s.heap.get? b = some o ∧ H b = none
  bsz : base.objs.size ≤ s.heap.objs.size
  funs : s.heap.FunFrames base outer
  frf : ∀ b ∈ frs outer, H b = none
  hok : HOk P w H s.heap
  bare : AllBare s.gens
/-- a call's end -/
def CE (outer : List Env) (P : Program) (w : World) (H : Hp) (s : Shared) (Q : VK) (u : Value) (s' : Shared) : Prop :=
  ∃ v H', s'.os = s.os ∧ AllBare s'.gens ∧ Un (frs outer) [] H H' s.heap s'.heap ∧ HOk P w H' s'.heap ∧ RelV v u ∧ Q v H'
def CR (CX : CXT) (outer : List Env) (P : Program) (w : World) (H : Hp) (s : Shared) (Q : VK) (E : XK) (r : Result) (s' : Shared) : Prop :=
  match r with
  | .ok (.ret u) => CE outer P w H s Q u s'
  | .ok _ => False
  | .error e => CX outer H s E e s'
structure FnOk (P : Program) (w : World) (K : PySem.W.Frag) (mg : Str → Option Value) (base : Heap) (CX : CXT) (k : Nat) (f : Addr) (fd : FuncData) (ps : List Str) (sp : Sp) : Prop where
  len : ∀ vs H Q E, sp vs H Q E → vs.length = ps.length
  run : ∀ (A : Around) (outer : List Env) (s : Shared) (H : Hp) (args : Args) (us : List Value) (vs : List V) (Q : VK) (E : XK), Room k A → Env0 P w K mg base A outer s H → BindsTo s fd args (ps.zip us) → Vals vs us → sp vs H Q E →
    codeAny (model P w) A (.call (.ref f) args) (CR CX outer P w H s Q E) s
section
variable {X : Cx} {pins : List (Addr × Obj)} {σ : St} {H : Hp} {s s' : Shared}
/-- from a body: what a callee wants -/
theorem Inv.env0 (I : Inv X pins σ H s) : Env0 X.prog X.w X.K X.mg X.base X.A X.stack s H :=
  ⟨I.ok.frames, I.ok.mod, I.bs, Nat.le_trans I.ok.bsz I.sz, I.stack, I.stkFree, I.hok, I.bare⟩
/-- behind a call -/
theorem Inv.after {Q : VK} {u : Value} (I : Inv X pins σ H s) (h : CE X.stack X.prog X.w H s Q u s') : EP X pins σ Q u s' := by
  obtain ⟨v, H', os, bare, un, hok, r, q⟩ := h
  obtain ⟨hh, g, d, t, os'⟩ := s'
  obtain rfl : os' = s.os := os
  exact ⟨v, H', I.call (h' := hh) (g' := g) (d' := d) (t' := t) (ch := []) un hok bare (fun b z => absurd z (by simp)), r, q⟩
end

/-! ### calls -/
/-- f(..): the written arguments, then the defaults dvs; E: what is wanted of an exception -/
def tCall (sp : Sp) (dvs : List V) (E : XK) (t : TA) : TE := fun σ H Q => t σ H fun vs H1 => sp (vs ++ dvs) H1 Q E
/-- how the parameters are bound: us the positional arguments, kw the keywords' values by name, ds the defaults that fill up -/
def Binds (K : PySem.W.Frag) (fd : FuncData) (ps : List Str) (ds : List Value) : Prop :=
  ∀ (s : Shared) (us : List Value), K.In s.heap → (us ++ ds).length = ps.length → BindsTo s fd ⟨us, []⟩ (ps.zip (us ++ ds))
/-- every parameter is given -/
theorem Binds.all {K : PySem.W.Frag} {fd : FuncData} {ps : List Str} (h : ∀ us : List Value, us.length = ps.length → bindArgs fd ⟨us, []⟩ = pure (ps.zip us)) : Binds K fd ps [] := fun s us _ hl => by
  rw [List.append_nil] at hl ⊢
  exact .of_eq (h us hl)

/-- an exception of a callee reaches what this body wants of exceptions -/
def Passes (CX : CXT) (X : Cx) (E : XK) : Prop := ∀ (pins : List (Addr × Obj)) (σ : St) (H : Hp) (s : Shared) (e : Value) (s' : Shared), Inv X pins σ H s → CX X.stack H s E e s' → X.xe e s'

section
variable {X : Cx} {CX : CXT} {k : Nat} {f C : Addr} {fd : FuncData} {ps : List Str} {sp : Sp} {dvs : List V} {ds : List Value} {E : XK} {x m : Str} {p pos apos : Pos} {e o : Expr} {es : List Expr} {ta : TE} {t : TA}

/-- the callee runs -/
theorem run_fn {pins : List (Addr × Obj)} {σ : St} {H : Hp} {s : Shared} {Q : VK} {us : List Value} {vs : List V} (F : FnOk X.prog X.w X.K X.mg X.base CX k f fd ps sp) (hr : Room k X.A) (hb : Binds X.K fd ps ds) (hd : Vals dvs ds) (hx : Passes CX X E)
    (I : Inv X pins σ H s) (r : Vals vs us) (h : sp (vs ++ dvs) H Q E) : wpAny (model X.prog X.w) X.A (call (.ref f) us) (EP X pins σ Q) X.xe s := by
  have r2 : Vals (vs ++ dvs) (us ++ ds) := r.append hd
  have hl : (us ++ ds).length = ps.length := by rw [← r2.length]; exact F.len _ _ _ _ h
  refine wpAny_call (codeAny_mono (F.run X.A X.stack s H ⟨us, []⟩ (us ++ ds) (vs ++ dvs) Q E hr I.env0 (hb s us I.kIn hl) r2 h) fun r s' hq => ?_)
  cases r with
  | error e => exact hx pins σ H s e s' I hq
  | ok fl =>
    cases fl with
    | ret u => exact I.after hq
    | next => exact False.elim hq
    | brk => exact False.elim hq
    | cont => exact False.elim hq

theorem pe_call (F : FnOk X.prog X.w X.K X.mg X.base CX k f fd ps sp) (hr : Room k X.A) (hg : Gl X x) (hm : X.mg x = some (.ref f)) (hk : PySem.W.keepIn X.K (.ref f) = true) (hb : Binds X.K fd ps ds) (hd : Vals dvs ds) (hx : Passes CX X E)
    (ha : PA X (e :: es) t) (hdb : (x == ("__debug__" : Str)) = false := by decide) (he : starEach (e :: es) X.env = (false, eval e X.env) :: starEach es X.env := by rfl) (hpl : (backTo pos (starEach es X.env)).any (·.1) = false := by rfl) :
    PE X (.Call (.Name x p) (e :: es) [] pos) (tCall sp dvs E t) := by
  intro pins s σ H Q I h
  refine wpAny_Call_Name_kw (ld_glob I hg hm ?_ hdb)
  refine PySem.W.callWith_K (h₀ := X.base) I.ok.mod.kin hk (thn (ha pos pins s σ H _ I h) fun us s1 ⟨vs, H1, I1, r, q⟩ => ⟨I1.kIn, ?_⟩) he hpl
  exact run_fn F hr hb hd hx I1 r q
/-- what a class must have to be made -/
structure Mk (K : PySem.W.Frag) (C f : Addr) : Prop where
  makes : PySem.W.makesIn K C = true
  init : PySem.W.findIn K (.ref C) "__init__" = some (some (.ref f))
  fn : PySem.W.isFn K (.ref f) = true
  kp : PySem.W.keepIn K (.ref C) = true

end

/-! ### keywords -/
section
variable {X : Cx} {CX : CXT} {k : Nat} {f C : Addr} {fd : FuncData} {ps ks : List Str} {sp : Sp} {E : XK} {x m : Str} {p pos apos kpos : Pos} {e o : Expr} {es : List Expr} {kws : List Keyword} {te ta : TE} {t tk : TA} {nm : Option Str}
/-- how a call with keywords binds: g puts the positional values us and the keywords' values ws (names ks) in the parameters' order, defaults among them -/
structure KBinds (K : PySem.W.Frag) (fd : FuncData) (ps ks : List Str) (g : List Value → List Value → List Value) (gV : List V → List V → List V) : Prop where
  to : ∀ (s : Shared) (us ws : List Value), K.In s.heap → (g us ws).length = ps.length → BindsTo s fd ⟨us, ks.zip ws⟩ (ps.zip (g us ws))
  rel : ∀ {vs : List V} {us : List Value} {zs : List V} {ws : List Value}, Vals vs us → Vals zs ws → Vals (gV vs zs) (g us ws)
variable {g : List Value → List Value → List Value} {gV : List V → List V → List V}
end

/-! ### a def's body keeps its promise -/
/-- names: the parameters first -/
structure FnScope (N P : List Str) (sc : Scope) : Prop where
  kind : sc.kind = .function
  co : sc.isCoroutine = false
  gen : sc.isGenerator = false
  nd : N.Nodup
  pre : N.take P.length = P
  par : ∀ x ∈ P, sc.names.lookup x = some .local ∨ sc.names.lookup x = some .cell
  nofree : ∀ y ∈ sc.names, y.2 ≠ .free

theorem bindL_out {kindOf : Str → Option NameKind} {x : Str} : ∀ {binds : List (Str × Value)} {m : Str → Option Value}, (∀ v, (x, v) ∉ binds) → bindL kindOf binds m x = m x
  | [], _, _ => rfl
  | (n, v) :: r, m, h => by
    unfold bindL
    rw [bindL_out fun w hw => h w (List.mem_cons_of_mem _ hw)]
    split
    · have : x ≠ n := by rintro rfl; exact h v List.mem_cons_self
      simp [this]
    · rfl
theorem bindC_out {kindOf : Str → Option NameKind} {x : Str} : ∀ {binds : List (Str × Value)} {m : Str → Option Value}, (∀ v, (x, v) ∉ binds) → bindC kindOf binds m x = m x
  | [], _, _ => rfl
  | (n, v) :: r, m, h => by
    unfold bindC
    rw [bindC_out fun w hw => h w (List.mem_cons_of_mem _ hw)]
    split
    · rfl
    · have : x ≠ n := by rintro rfl; exact h v List.mem_cons_self
      simp [this]
theorem bindL_get {kindOf : Str → Option NameKind} {x : Str} {v : Value} : ∀ {P : List Str} {vs : List Value} {i : Nat} {m : Str → Option Value}, P.Nodup → P[i]? = some x → vs[i]? = some v → kindOf x = some .local →
    bindL kindOf (P.zip vs) m x = some v
  | [], _, _, _, _, h, _, _ => by simp at h
  | _ :: _, [], _, _, _, _, h, _ => by simp at h
  | p :: P, w :: vs, 0, m, nd, h1, h2, hk => by
    simp at h1 h2; subst h1; subst h2
    show bindL kindOf ((p, w) :: P.zip vs) m p = _
    unfold bindL
    rw [bindL_out fun v hv => (List.nodup_cons.mp nd).1 (List.of_mem_zip hv).1, if_pos hk]
    simp
  | p :: P, w :: vs, i + 1, m, nd, h1, h2, hk => by
    show bindL kindOf ((p, w) :: P.zip vs) m x = _
    unfold bindL
    exact bindL_get (i := i) (List.nodup_cons.mp nd).2 (by simpa using h1) (by simpa using h2) hk
theorem bindC_get {kindOf : Str → Option NameKind} {x : Str} {v : Value} : ∀ {P : List Str} {vs : List Value} {i : Nat} {m : Str → Option Value}, P.Nodup → P[i]? = some x → vs[i]? = some v → kindOf x ≠ some .local →
    bindC kindOf (P.zip vs) m x = some v
  | [], _, _, _, _, h, _, _ => by simp at h
  | _ :: _, [], _, _, _, _, h, _ => by simp at h
  | p :: P, w :: vs, 0, m, nd, h1, h2, hk => by
    simp at h1 h2; subst h1; subst h2
    show bindC kindOf ((p, w) :: P.zip vs) m p = _
    unfold bindC
    rw [bindC_out fun v hv => (List.nodup_cons.mp nd).1 (List.of_mem_zip hv).1, if_neg hk]
    simp
  | p :: P, w :: vs, i + 1, m, nd, h1, h2, hk => by
    show bindC kindOf ((p, w) :: P.zip vs) m x = _
    unfold bindC
    exact bindC_get (i := i) (List.nodup_cons.mp nd).2 (by simpa using h1) (by simpa using h2) hk

/-- the names' values at the entry -/
def start (N : List Str) (vs : List V) : St := vs.map some ++ List.replicate (N.length - vs.length) none

/-- the context of a def's body, at its entry; an exception leaves the frame, then lies as CX says -/
def cxOf (CX : CXT) (P : Program) (w : World) (K : PySem.W.Frag) (mg : Str → Option Value) (base : Heap) (N : List Str) (qual : Str) (scope : Scope) (f : Addr) (cd : Value) (A : Around) (outer : List Env) (s : Shared) (H : Hp) (E : XK) : Cx where
  prog := P
  w := w
  K := K
  mg := mg
  base := base
  A := A.deeper (envOfC qual scope s.heap.objs.size f cd)
  N := N
  s₀ := s
  H₀ := H
  env := envOfC qual scope s.heap.objs.size f cd
  outer := outer
  stack := envOfC qual scope s.heap.objs.size f cd :: outer
  ex := []
  calm := true
  fn := fun _ => true
  pn := []
  xe := fun e s' => wpAny (model P w) (A.deeper (envOfC qual scope s.heap.objs.size f cd)) (leaving (envOfC qual scope s.heap.objs.size f cd) e) (fun _ s'' => CX outer H s E e s'') (fun e' s'' => CX outer H s E e' s'') s'

theorem cell_has {sc : Scope} {n : Nat} {x : Str} (h : sc.names.lookup x = some .cell) : ∃ c, (cellsFrom n sc.names []).lookup x = some c := by
  have q := PySem.W.cellsFrom_some sc.names n [] (.inl h)
  exact Option.isSome_iff_exists.mp q

theorem inv_start {CX : CXT} {P : Program} {w : World} {K : PySem.W.Frag} {mg : Str → Option Value} {base : Heap} {N ps : List Str} {qual : Str} {scope : Scope} {f : Addr} {cd : Value} {A : Around} {outer : List Env} {s s1 : Shared} {H : Hp} {E : XK} {us : List Value} {vs : List V}
    (S : FnScope N ps scope) (hd : A.handled = none) (e0 : Env0 P w K mg base A outer s H) (hl : vs.length = ps.length) (r : Vals vs us)
    (x : InCallC s s.heap.objs.size (bindL (envOfC qual scope s.heap.objs.size f cd).kindOf (ps.zip us) fun _ => none) (cellsFrom (s.heap.objs.size + 1) scope.names []) (bindC (envOfC qual scope s.heap.objs.size f cd).kindOf (ps.zip us) fun _ => none) s1) :
    Inv (cxOf CX P w K mg base N qual scope f cd A outer s H E) [] (start N vs) H s1 := by
  have hpl : ps.length ≤ N.length := by have := congrArg List.length S.pre; rw [List.length_take] at this; omega
  obtain ⟨h1, tk, rfl, hk⟩ := x.done
  have noA : ∀ b : Addr, b ∉ (cxOf CX P w K mg base N qual scope f cd A outer s H E).ex := fun b z => absurd (show b ∈ ([] : List Addr) from z) (by simp)
  refine ⟨⟨e0.mod, S.kind, rfl, rfl, Nat.le_refl _, fun y z c h1 h2 => ?_, fun y hy => ?_, fun y c _ h => ?_, fun _ => hd, Around.frames_deeper e0.frames, .inr ⟨rfl, rfl⟩, fun b z => absurd z (noA b), e0.bs, e0.bsz, fun b _ _ => noA b, fun b z => absurd z (noA b), e0.funs, e0.frf⟩,
    rfl, e0.bare, Un.kept hk, ⟨_, x.toInCall.ns, fun i y v h1 h2 h3 => ?_⟩, fun y c h => ⟨_, x.cell y c h⟩, e0.hok.fresh (Nat.le_refl _), fun y c h => ?_, fun p hp => absurd (show p ∈ ([] : List (Addr × Obj)) from hp) (by simp), e0.hok.kept hk, ?_⟩
  · exact name_of_addr x.apart (PySem.mem_of_lookup h1) (PySem.mem_of_lookup h2)
  · have hy : scope.names.lookup y = some .cell ∨ scope.names.lookup y = some .free := hy
    rcases hy with hy | hy
    · exact cell_has hy
    · exact absurd rfl (S.nofree _ (PySem.mem_of_lookup hy))
  · exact Nat.le_of_lt (x.above y c (PySem.mem_of_lookup h))
  · have hi : i < vs.length := by
      unfold start at h2
      by_cases hi : i < vs.length
      · exact hi
      · rw [List.getElem?_append_right (by simpa using hi)] at h2
        rw [List.getElem?_replicate] at h2
        split at h2 <;> cases h2
    have ha : vs[i]? = some v := by
      unfold start at h2
      rw [List.getElem?_append_left (by simpa using hi), List.getElem?_map] at h2
      cases e : vs[i]? with
      | none => rw [e] at h2; cases h2
      | some a => rw [e] at h2; cases h2; rfl
    obtain ⟨u, hu, rv⟩ := r.get ha
    have hp : ps[i]? = some y := by
      rw [← S.pre, List.getElem?_take_of_lt (by omega)]; exact h1
    have ndP : ps.Nodup := by rw [← S.pre]; exact S.nd.sublist (List.take_sublist _ _)
    refine ⟨u, rv, ?_⟩
    rcases S.par y (List.mem_of_getElem? hp) with k | k
    · exact .inl ⟨k, bindL_get ndP hp hu k⟩
    · obtain ⟨c, e⟩ := cell_has (n := s.heap.objs.size + 1) k
      refine .inr ⟨.inl k, c, e, ?_⟩
      have q := x.cell y c e
      rw [bindC_get ndP hp hu (by show scope.names.lookup y ≠ _; rw [k]; decide)] at q
      exact q
  · exact e0.hok.fresh (Nat.le_of_lt (x.above y c (PySem.mem_of_lookup h)))
  · unfold start
    show _ = N.length
    rw [List.length_append, List.length_map, List.length_replicate]
    omega

/-- THE RULE: a def (or a method) of the text, by its body. The body's reading t is chosen for each entry; it is run at the parameters' values -/
theorem fn_of {CX : CXT} {P : Program} {w : World} {K : PySem.W.Frag} {mg : Str → Option Value} {base : Heap} {k : Nat} {f : Addr} {name qual : Str} {params : Arguments} {body : List Stmt} {scope : Scope} {dV kV doc pm cdv ct oc : Value} {an od : Option Addr}
    {osl : Array (Option Value)} {N ps : List Str} {sp : Sp} (lk : K.lookup f = some ⟨oc, od, .func (PySem.W.fnOf name qual params body scope dV kV doc pm an cdv ct), osl⟩) (hcd : PySem.W.codeIn K cdv qual = true) (S : FnScope N ps scope)
    (len : ∀ vs H Q E, sp vs H Q E → vs.length = ps.length)
    (hbody : ∀ (A : Around) (outer : List Env) (s : Shared) (H : Hp) (vs : List V) (Q : VK) (E : XK), Room k (A.deeper (envOfC qual scope s.heap.objs.size f cdv)) → sp vs H Q E →
      ∃ t, PSs (cxOf CX P w K mg base N qual scope f cdv A outer s H E) body t ∧ t { nx := fun _ H' => Q .non H', rt := Q } (start N vs) H) :
    FnOk P w K mg base CX (k + 1) f (PySem.W.fnOf name qual params body scope dV kV doc pm an cdv ct) ps sp := by
  refine ⟨len, fun A outer s H args us vs Q E hr e0 hb r hsp => ?_⟩
  have hl := len _ _ _ _ hsp
  have KX : K.In s.heap := e0.mod.kin.keeps fun b o e => (e0.bs b o e).1
  have lim : s.heap.NoLimit := e0.mod.nolimit.keeps fun b o e => (e0.bs b o e).1
  have hkind : ∀ y ∈ ps.zip us, scope.names.lookup y.1 = some .local ∨ (scope.names.lookup y.1 = some .cell ∧ ((cellsFrom (s.heap.objs.size + 1) scope.names []).lookup y.1).isSome = true) := fun ⟨n, v⟩ hy => by
    rcases S.par n (List.of_mem_zip hy).1 with q | q
    · exact .inl q
    · exact .inr ⟨q, PySem.W.cellsFrom_some _ _ _ (.inl q)⟩
  refine codeAny_call_function hr.depth (KX _ _ lk) rfl S.co S.gen rfl (PySem.W.codeRec_of KX hcd) (hb _ _ _ _ ?_)
  refine wpAny_newFunctionEnv_cells S.kind hkind fun env he s1 x => ?_
  subst he
  refine ⟨lim.keeps x.toInCall.keep, codeAny_func ?_⟩
  obtain ⟨t, ht, hq⟩ := hbody A outer s H vs Q E (hr.deeper _) hsp
  have I : Inv (cxOf CX P w K mg base N qual scope f cdv A outer s H E) [] (start N vs) H s1 := inv_start S hr.hd e0 hl r x
  refine wpAny_mono (ht [] s1 (start N vs) H _ I hq) (fun fl s' hs => ?_) fun e s' hs => hs
  have fin : ∀ {σ' : St} {H' : Hp} {v : V} {u : Value}, Inv (cxOf CX P w K mg base N qual scope f cdv A outer s H E) [] σ' H' s' → RelV v u → Q v H' → CE outer P w H s Q u s' :=
    fun {σ' H' v u} J rv q => ⟨v, H', J.os, J.bare, J.base, J.hok, rv, q⟩
  cases fl with
  | ret u =>
    obtain ⟨v, σ', H', J, rv, q⟩ := hs
    exact fin J rv q
  | next =>
    obtain ⟨σ', H', J, q⟩ := hs
    exact fin (v := V.non) (u := Value.none) J rfl q
  | brk =>
    obtain ⟨_, _, _, q⟩ := hs
    exact False.elim q
  | cont =>
    obtain ⟨_, _, _, q⟩ := hs
    exact False.elim q
end L2

namespace L2
open PySem PySem.Spec PyProof.Rows
section
variable {X : Cx} {x : Str} {p pos : Pos} {e : Expr} {es : List Expr} {t : TA} {id T : String} {r : List V → Hp → VK → Prop}

def tCB (r : List V → Hp → VK → Prop) (t : TA) : TE := fun σ H Q => t σ H fun vs H1 => r vs H1 Q
/-- f(e, ..), f a built-in function -/
theorem pe_callB (hc : CallR X (.builtin id) r) (hg : Gl X x) (hm : X.mg x = none) (hv : bootBuiltins x = some (.builtin id)) (ha : PA X (e :: es) t) (hn : x ≠ "__name__" := by decide) (hdb : (x == ("__debug__" : Str)) = false := by decide)
    (he : starEach (e :: es) X.env = (false, eval e X.env) :: starEach es X.env := by rfl) (hpl : (backTo pos (starEach es X.env)).any (·.1) = false := by rfl) : PE X (.Call (.Name x p) (e :: es) [] pos) (tCB r t) := by
  intro pins s σ H Q I h
  refine wpAny_Call_Name_kw (ld_blt I hg hm hv ?_ hn hdb)
  exact PyProof.Rows.callWith_builtin1 (thn (ha pos pins s σ H _ I h) fun us s1 ⟨vs, H1, I1, r1, q1⟩ => hc pins s1 σ H1 vs us Q I1 r1 q1) he hpl
/-- T(e, ..), T a built-in type -/
theorem pe_callTy (hc : CallR X (.type T) r) (hg : Gl X x) (hm : X.mg x = none) (hv : bootBuiltins x = some (.type T)) (ha : PA X (e :: es) t) (hn : x ≠ "__name__" := by decide) (hdb : (x == ("__debug__" : Str)) = false := by decide)
    (he : starEach (e :: es) X.env = (false, eval e X.env) :: starEach es X.env := by rfl) (hpl : (backTo pos (starEach es X.env)).any (·.1) = false := by rfl) : PE X (.Call (.Name x p) (e :: es) [] pos) (tCB r t) := by
  intro pins s σ H Q I h
  refine wpAny_Call_Name_kw (ld_blt I hg hm hv ?_ hn hdb)
  exact PyProof.Rows.callWith_type1 (thn (ha pos pins s σ H _ I h) fun us s1 ⟨vs, H1, I1, r1, q1⟩ => hc pins s1 σ H1 vs us Q I1 r1 q1) he hpl
end
end L2

namespace HT
open PySem PyProof.Rows

section
open PySem.SeqAt
open PySem.AutoSeq1 (wpAny_loadPart')
open PySem.MeetsSeq PySem.MeetsSeq2 PySem.MeetsSeq3

end

section
variable {prog : Program} {w : World} {A : Around} {E : Value → Shared → Prop} {s : Shared}

/-! ### t[a:b], not the whole -/
/-- a slice's bound as a place among n (d where it is left out) -/
def sIx (n d : Nat) : Option Int → Nat
  | none => d
  | some v => if v < 0 then (v + (n : Int)).toNat else min v.toNat n
theorem sIx_none (n d : Nat) : sIx n d none = d := rfl
theorem sIx_nat (n d k : Nat) : sIx n d (some (k : Int)) = min k n := by
  show (if (k : Int) < 0 then ((k : Int) + (n : Int)).toNat else min (k : Int).toNat n) = min k n
  rw [if_neg (by omega), Int.toNat_natCast]
end
end HT

namespace L2
open PySem PySem.Spec PyProof.Rows

/-! ### the parts of a slice -/
abbrev TO := St → Hp → (Option Int → Hp → Prop) → Prop
/-- a slice's part (left out, or an int) -/
def PO (X : Cx) (e : Option Expr) (t : TO) : Prop :=
  ∀ (pins : List (Addr × Obj)) (s : Shared) (σ : St) (H : Hp) (Q : Option Int → Hp → Prop), Inv X pins σ H s → t σ H Q →
    wpAny (model X.prog X.w) X.A (evalPart e X.env) (fun u s' => ∃ o H', Inv X pins σ H' s' ∧ IsPart u o ∧ Q o H') X.xe s
def tNoPart : TO := fun _ H Q => Q none H
theorem intsAre_of {ns : List Int} : ∀ {us : List Value}, Vals (ns.map V.int) us → IntsAre us ns := by
  induction ns with
  | nil => intro us r; rw [List.map_nil] at r; cases r; exact .nil
  | cons n ns ih =>
    intro us r
    rw [List.map_cons] at r
    cases r with
    | cons r1 r2 =>
      obtain ⟨t, e⟩ := r1
      subst e
      exact .cons n t (ih r2)

section
variable {X : Cx} {e : Expr} {te : TE} {lo hi : Option Expr} {tl th : TO} {pos p2 : Pos}

theorem po_none : PO X none tNoPart := by
  intro pins s σ H Q I h
  rw [evalPart_none]
  exact wpAny_pure ⟨none, H, I, .none, h⟩
/-- what a slice of a value is, by values: the slice object stands at sl -/
def SlR (X : Cx) (r : V → Option Int → Option Int → Hp → VK → Prop) : Prop :=
  ∀ (pins : List (Addr × Obj)) (s : Shared) (σ : St) (H : Hp) (x : V) (v vl vu : Value) (lo hi : Option Int) (sl : Addr) (Q : VK), Inv X pins σ H s → RelV x v → s.heap.IsSliceOf sl vl vu .none → IsPart vl lo → IsPart vu hi → r x lo hi H Q →
    ∃ T id, typeLookup (.type T) "__getitem__" = pure (some (.builtin id)) ∧ s.TypeIs v T ∧ wpAny (model X.prog X.w) X.A (getItem v (.ref sl)) (EP X pins σ Q) X.xe s
def tSl (r : V → Option Int → Option Int → Hp → VK → Prop) (te : TE) (tl th : TO) : TE := fun σ H Q => te σ H fun x H1 => tl σ H1 fun l H2 => th σ H2 fun u H3 => r x l u H3 Q
/-- a[lo:hi], any a -/
theorem pe_slice {r : V → Option Int → Option Int → Hp → VK → Prop} (hr : SlR X r) (he : PE X e te) (hl : PO X lo tl) (hu : PO X hi th) : PE X (.Subscript e (.Slice lo hi none p2) pos) (tSl r te tl th) := by
  intro pins s σ H Q I h
  refine Subscript_ (thn (he pins s σ H _ I h) fun v s1 ⟨x, H1, I1, r1, q1⟩ => ?_)
  refine wpAny_Slice (thn (hl pins s1 σ H1 _ I1 q1) fun vl s2 ⟨l, H2, I2, pl, q2⟩ => thn (hu pins s2 σ H2 _ I2 q2) fun vu s3 ⟨u, H3, I3, pu, q3⟩ => ?_)
  rw [evalPart_none]
  refine wpAny_pure ?_
  have I4 : Inv X pins σ H3 { s3 with heap := s3.heap.push { cls := .type "slice", data := .fields #[vl, vu, .none] } } := I3.kept (t' := s3.toks) fun b ob q => Heap.get?_push_of_some _ q
  obtain ⟨T, id, hT, ht, hg⟩ := hr pins { s3 with heap := s3.heap.push { cls := .type "slice", data := .fields #[vl, vu, .none] } } σ H3 x v vl vu l u s3.heap.objs.size Q I4 r1 (Heap.IsSliceOf.new ..) pl pu q3
  show wpAny (model X.prog X.w) X.A (subscriptTail e (.Slice lo hi none p2) v (.ref s3.heap.objs.size)) (EP X pins σ Q) X.xe { s3 with heap := s3.heap.push { cls := .type "slice", data := .fields #[vl, vu, .none] } }
  exact tail_any (ops := [.ref s3.heap.objs.size, v]) ht hT hg (by with_unfolding_all rfl)

/-- the items of xs[lo:hi] -/
def cutV (xs : List V) (lo hi : Option Int) : List V := (xs.drop (HT.sIx xs.length 0 lo)).take (HT.sIx xs.length xs.length hi - HT.sIx xs.length 0 lo)
theorem cutV_length (xs : List V) (lo hi : Option Int) : (cutV xs lo hi).length ≤ xs.length := by
  unfold cutV
  rw [List.length_take, List.length_drop]
  omega
/-! ### t < u, t + u -/
end
end L2

namespace L2
open PySem PySem.Spec PyProof.Rows

/-! ### places -/
/-- the place that an index of any sign means -/
def ixN (n : Nat) (i : Int) : Option Nat := if 0 ≤ i then (if i < n then some i.toNat else none) else if -(n : Int) ≤ i then some (i + n).toNat else none
def atI {α : Type} (xs : List α) (i : Int) : Option α := (ixN xs.length i).bind fun j => xs[j]?
theorem ixN_seq {n : Nat} {i : Int} {j : Nat} (h : ixN n i = some j) : seqIndex? i n = some j ∧ j < n ∧ -(n : Int) ≤ i ∧ i < n := by
  unfold ixN at h
  by_cases h0 : 0 ≤ i
  · rw [if_pos h0] at h
    by_cases h1 : i < n
    · rw [if_pos h1] at h
      have e : i.toNat = j := Option.some.inj h
      exact ⟨by rw [seqIndex_of h0 h1, e], by omega, by omega, h1⟩
    · rw [if_neg h1] at h; cases h
  · rw [if_neg h0] at h
    by_cases h1 : -(n : Int) ≤ i
    · rw [if_pos h1] at h
      have e : (i + n).toNat = j := Option.some.inj h
      exact ⟨by rw [seqIndex_neg (by omega) h1, e], by omega, h1, by omega⟩
    · rw [if_neg h1] at h; cases h
theorem atI_get {α : Type} {xs : List α} {i : Int} {v : α} (h : atI xs i = some v) : ∃ j, seqIndex? i xs.length = some j ∧ xs[j]? = some v ∧ j < xs.length ∧ -(xs.length : Int) ≤ i ∧ i < xs.length := by
  unfold atI at h
  cases e : ixN xs.length i with
  | none => rw [e] at h; cases h
  | some j =>
    rw [e] at h
    obtain ⟨h1, h2, h3, h4⟩ := ixN_seq e
    exact ⟨j, h1, h, h2, h3, h4⟩
theorem atI_nat {α : Type} {xs : List α} {j : Nat} {v : α} (h : xs[j]? = some v) : atI xs (j : Int) = some v := by
  have hj : j < xs.length := (List.getElem?_eq_some_iff.mp h).1
  have e : ixN xs.length (j : Int) = some j := by
    unfold ixN
    rw [if_pos (by omega), if_pos (by omega)]; simp
  unfold atI; rw [e]; exact h
theorem atI_last {α : Type} (xs : List α) (v : α) : atI (xs ++ [v]) (-1) = some v := by
  have hl : (xs ++ [v]).length = xs.length + 1 := by simp
  have e : ixN (xs ++ [v]).length (-1) = some xs.length := by
    unfold ixN
    rw [hl, if_neg (by decide), if_pos (by omega)]
    congr 1
    omega
  unfold atI
  rw [e]
  show (xs ++ [v])[xs.length]? = some v
  simp

/-! ### what may be subscripted -/
/-- what stands as an index of a plain subscript -/
def PlainIx (b : Expr) : Prop := ∀ o i, subscripted b false o i = operate [o, i] (getItem o i)
/-- a subscript by values -/
def IxR (X : Cx) (r : R2) : Prop :=
  ∀ (value slice : Expr) (pins : List (Addr × Obj)) (s : Shared) (σ : St) (H : Hp) (x y : V) (v u : Value) (Q : VK), Inv X pins σ H s → RelV x v → RelV y u → r x y H Q →
    subscripted slice false v u = operate [v, u] (getItem v u) → wpAny (model X.prog X.w) X.A (subscriptTail value slice v u) (EP X pins σ Q) X.xe s
/-- a call of a builtin's method by values: the receiver, the arguments -/
def MtR (X : Cx) (id : String) (r : V → List V → Hp → VK → Prop) : Prop :=
  ∀ (pins : List (Addr × Obj)) (s : Shared) (σ : St) (H : Hp) (x : V) (xs : List V) (v : Value) (us : List Value) (Q : VK), Inv X pins σ H s → RelV x v → Vals xs us → r x xs H Q →
    wpAny (model X.prog X.w) X.A (call (.builtin id) (v :: us)) (EP X pins σ Q) X.xe s
section
variable {X : Cx} {a b : Expr} {ta tb : TE} {pos : Pos}
/-- a[b] -/
theorem pe_ix {r : R2} (hr : IxR X r) (ha : PE X a ta) (hb : PE X b tb) (hs : PlainIx b) : PE X (.Subscript a b pos) (tOp r ta tb) := by
  intro pins s σ H Q I h
  exact Subscript_ (binT ha hb I h fun v u s2 x y H2 I2 rx ry q => hr a b pins s2 σ H2 x y v u Q I2 rx ry q (hs _ _))

def rIxL (K : PySem.W.Frag) : R2 := fun x y H Q => ∃ p xs i v, x = .ref p ∧ y = .int i ∧ SqL K H p xs ∧ atI xs i = some v ∧ Q v H
def rIxT (K : PySem.W.Frag) : R2 := fun x y H Q => ∃ p xs i v, x = .ref p ∧ y = .int i ∧ SqT K H p xs ∧ atI xs i = some v ∧ Q v H
theorem ix_list : IxR X (rIxL X.K) := by
  intro value slice pins s σ H x y v u Q I rx ry h hs
  obtain ⟨p, xs, i, z, rfl, rfl, hq, he, q⟩ := h
  cases rx
  obtain ⟨t, rfl⟩ := ry
  obtain ⟨its, r, pl, hz⟩ := I.list hq
  obtain ⟨j, h1, h2, h3, h4, h5⟩ := atI_get he
  obtain ⟨w, ew, rw'⟩ := r.get h2
  have hl := r.length
  have hn := line63
  have fin : EP X pins σ Q w s := ⟨z, H, I, rw', q⟩
  by_cases h0 : 0 ≤ i
  · have hj : i.toNat = j := by
      rw [seqIndex_of h0 h5] at h1
      exact Option.some.inj h1
    exact item_listR pl.isList h0 (by omega) (by rw [hj]; simpa using ew) fin hs
  · have hj : (i + (its.toArray.size : Int)).toNat = j := by
      rw [seqIndex_neg (by omega) h4] at h1
      rw [List.size_toArray, ← hl]
      exact Option.some.inj h1
    exact subscriptTail_builtinR (x := w) pl.isList.typeIs slot_list_getitem.lookup
      (wpAny_getItem_list_neg (Q := fun r s' => r = w ∧ EP X pins σ Q r s') pl.isList (by omega) (by rw [List.size_toArray] <;> omega) (by omega) (by rw [hj]; simpa using ew) ⟨rfl, fin⟩) hs
theorem ix_tup : IxR X (rIxT X.K) := by
  intro value slice pins s σ H x y v u Q I rx ry h hs
  obtain ⟨p, xs, i, z, rfl, rfl, hq, he, q⟩ := h
  cases rx
  obtain ⟨t, rfl⟩ := ry
  obtain ⟨its, r, pl, hz⟩ := I.tuple hq
  obtain ⟨j, h1, h2, h3, h4, h5⟩ := atI_get he
  obtain ⟨w, ew, rw'⟩ := r.get h2
  have hl := r.length
  have hn := line63
  have fin : EP X pins σ Q w s := ⟨z, H, I, rw', q⟩
  exact subscriptTail_builtinR (x := w) pl.typeIs slot_tuple_getitem.lookup
    (getItem_tuple (j := j) (Q := fun r s' => r = w ∧ EP X pins σ Q r s') pl (by omega) (by omega) (by rw [List.size_toArray, ← hl]; exact h1) (by simpa using ew) ⟨rfl, fin⟩) hs
/-! ### xs[i] = v, any sign -/
/-! ### slices -/
theorem slice_bounds (lo hi : Option Int) (n : Nat) : (sliceBounds lo hi none n).1 = ((HT.sIx n 0 lo : Nat) : Int) ∧ (sliceBounds lo hi none n).2.1 = ((HT.sIx n n hi : Nat) : Int) ∧ (sliceBounds lo hi none n).2.2 = 1 := by
  refine ⟨?_, ?_, rfl⟩
  · cases lo with
    | none => simp [sliceBounds, HT.sIx]
    | some i =>
      simp only [sliceBounds, HT.sIx, Option.getD_none, show (1 : Int) > 0 by decide, if_true]
      by_cases h : i < 0
      · simp only [h, if_true] <;> omega
      · simp only [h, if_false] <;> omega
  · cases hi with
    | none => simp [sliceBounds, HT.sIx]
    | some i =>
      simp only [sliceBounds, HT.sIx, Option.getD_none, show (1 : Int) > 0 by decide, if_true]
      by_cases h : i < 0
      · simp only [h, if_true] <;> omega
      · simp only [h, if_false] <;> omega
theorem slicePick_cut (its : List Value) (lo hi : Option Int) : slicePick its.toArray lo hi none = ((its.drop (HT.sIx its.length 0 lo)).take (HT.sIx its.length its.length hi - HT.sIx its.length 0 lo)).toArray := by
  obtain ⟨h1, h2, h3⟩ := slice_bounds lo hi its.toArray.size
  unfold slicePick
  rw [h1, h2, h3]
  simp only [sliceRange_one, pick_run, List.size_toArray] <;> rfl
/-- xs[lo:hi] of a list: a new list -/
def rSlL (K : PySem.W.Frag) : V → Option Int → Option Int → Hp → VK → Prop := fun x lo hi H Q => ∃ a xs, x = .ref a ∧ SqL K H a xs ∧ ∀ p, H p = none → Q (.ref p) (upd H p (.lst (cutV xs lo hi)))
theorem sl_list : SlR X (rSlL X.K) := by
  intro pins s σ H x v vl vu lo hi sl Q I rx hs pl pu h
  obtain ⟨a, xs, rfl, hx, q⟩ := h
  cases rx
  obtain ⟨its, r, ht, hz⟩ := I.list hx
  have hlen := r.length
  refine ⟨"list", _, slot_list_getitem.lookup, ht.isList.typeIs, ?_⟩
  refine wpAny_getItem_list_slice ht.isList hs pl pu .none (by simp) ?_ (by rw [List.size_toArray] <;> omega)
  rw [slicePick_cut, ← hlen]
  refine ⟨.ref s.heap.objs.size, _, I.laid (t' := s.toks) (o := .lst (cutV xs lo hi)) (fun b ob q => Heap.get?_push_of_some _ q) (Nat.le_refl _) ?_, rfl, q _ (I.hok.fresh (Nat.le_refl _))⟩
  exact ⟨Nat.le_trans (cutV_length xs lo hi) hz, _, 0, (r.drop (HT.sIx xs.length 0 lo)).take (HT.sIx xs.length xs.length hi - HT.sIx xs.length 0 lo), Heap.get?_push_size _ rfl⟩

/-! ### in, not in: flat items -/
/-! ### len, list(x), tuple(x) of any list or tuple that is read -/
theorem call_len_seq : CallR X (.builtin "len") (fun xs H Q => ∃ p ys, xs = [.ref p] ∧ (SqL X.K H p ys ∨ SqT X.K H p ys) ∧ Q (.int ys.length) H) := by
  intro pins s σ H xs us Q I r h
  obtain ⟨p, ys, rfl, hq, q⟩ := h
  obtain ⟨u, rfl, rx⟩ := vals1 r
  cases rx
  have hn := line63
  rcases hq with hq | hq
  · obtain ⟨its, r', pl, hz⟩ := I.list hq
    have hlen := r'.length
    exact Calls.call_len_list pl.isList (by simp only [List.size_toArray] <;> omega) ⟨.int ys.length, H, I.tok _, ⟨s.toks + 1, by rw [List.size_toArray, hlen]⟩, q⟩
  · obtain ⟨its, r', pl, hz⟩ := I.tuple hq
    have hlen := r'.length
    exact len_tuple pl (by simp only [List.size_toArray] <;> omega) ⟨.int ys.length, H, I.tok _, ⟨s.toks + 1, by rw [List.size_toArray, hlen]⟩, q⟩
theorem CallR.or {f : Value} {r r' : List V → Hp → VK → Prop} (h : CallR X f r) (h' : CallR X f r') : CallR X f (fun xs H Q => r xs H Q ∨ r' xs H Q) := by
  intro pins s σ H xs us Q I rs q
  rcases q with q | q
  · exact h pins s σ H xs us Q I rs q
  · exact h' pins s σ H xs us Q I rs q
/-! ### the call of a builtin's method: o.m(..) -/
/-- the value is of that builtin type -/
def tyV (K : PySem.W.Frag) (T : String) (x : V) (H : Hp) : Prop := match x with
  | .str _ => T = "str"
  | .int _ => T = "int"
  | .ref p => (T = "list" ∧ ∃ xs, SqL K H p xs) ∨ (T = "tuple" ∧ ∃ o, K.lookup p = some o ∧ o.cls = .type "tuple" ∧ o.dict = none) ∨
      (T = "dict" ∧ ((∃ kvs, H p = some (.dK kvs)) ∨ ∃ kvs, H p = some (.dT kvs))) ∨ (T = "set" ∧ ∃ S n, H p = some (.set S n))
  | _ => False
theorem tyV_is {pins : List (Addr × Obj)} {σ : St} {H : Hp} {s : Shared} {T : String} {x : V} {v : Value} (I : Inv X pins σ H s) (r : RelV x v) (ty : tyV X.K T x H) :
    s.TypeIs v T ∧ ∀ a, v = .ref a → ∃ ob, s.heap.get? a = some ob ∧ ob.dict = none := by
  cases x with
  | str z =>
    obtain ⟨t, rfl⟩ := r
    cases (show T = "str" from ty)
    exact ⟨typeIs_str s z t, fun _ e => nomatch e⟩
  | int i =>
    obtain ⟨t, rfl⟩ := r
    cases (show T = "int" from ty)
    exact ⟨typeIs_int s i t, fun _ e => nomatch e⟩
  | ref p =>
    cases r
    rcases ty with ⟨rfl, xs, hq⟩ | ⟨rfl, o, hk, hc, hd⟩ | ⟨rfl, hk⟩ | ⟨rfl, S, n, hk⟩
    · obtain ⟨its, _, pl, _⟩ := I.list hq
      refine ⟨pl.isList.typeIs, fun a e => ?_⟩
      cases e
      obtain ⟨o, n, e, c, hd, _⟩ := pl
      exact ⟨o, e, hd⟩
    · refine ⟨⟨o, I.kIn p o hk, hc⟩, fun a e => ?_⟩
      cases e
      exact ⟨o, I.kIn _ o hk, hd⟩
    · have z : ∃ o, s.heap.get? p = some o ∧ o.ExactDict := by
        rcases hk with ⟨kvs, hk⟩ | ⟨kvs, hk⟩
        · obtain ⟨_, _, _, _, o, _, _, e, ex, _⟩ := I.hok p _ hk
          exact ⟨o, e, ex⟩
        · obtain ⟨_, _, _, _, o, _, _, e, ex, _⟩ := I.hok p _ hk
          exact ⟨o, e, ex⟩
      obtain ⟨o, e, ex⟩ := z
      refine ⟨⟨o, e, ex.1⟩, fun a e2 => ?_⟩
      cases e2
      exact ⟨o, e, ex.2.1⟩
    · obtain ⟨o, _, _, _, e, ex, _⟩ := I.hok p _ hk
      refine ⟨⟨o, e, ex.1⟩, fun a e2 => ?_⟩
      cases e2
      exact ⟨o, e, ex.2.1⟩
  | _ => exact False.elim ty
def tBM (K : PySem.W.Frag) (T : String) (r : V → List V → Hp → VK → Prop) (to : TE) (t : TA) : TE := fun σ H Q => to σ H fun x H1 => tyV K T x H1 ∧ t σ H1 fun xs H2 => r x xs H2 Q
variable {o e : Expr} {es : List Expr} {to : TE} {t : TA} {name : Str} {apos cpos : Pos} {T id : String} {r : V → List V → Hp → VK → Prop}
theorem pe_bm (pa : PlainAttrs T) (slot : Slot T name id) (hty : typeOf (.builtin id) = pure (.type "method_descriptor")) (hm : MtR X id r) (ho : PE X o to) (ha : PA X (e :: es) t)
    (hbase : attributeBase o name X.env (eval o X.env) = eval o X.env := by rfl)
    (hfew : ((backTo cpos (starEach (e :: es) X.env)).all (fun x => !x.1) && (backToKw cpos (keywordEach [] X.env)).all (fun x => x.1.isSome)
      && decide ((e :: es).length + ([] : List Keyword).length + (if ([] : List Keyword).isEmpty then 0 else 1) < 30)) = true := by rfl)
    (hline : (apos.endLine == cpos.line) = true := by rfl) (hs : starEach (e :: es) X.env = (false, eval e X.env) :: starEach es X.env := by rfl) (hplain : (backTo cpos (starEach es X.env)).any (·.1) = false := by rfl) :
    PE X (.Call (.Attribute o name apos) (e :: es) [] cpos) (tBM X.K T r to t) := by
  intro pins s σ H Q I h
  refine wpAny_Call_method_late hbase hfew hline rfl (thn (ho pins s σ H _ I h) fun v s1 ⟨x, H1, I1, r1, ty, q1⟩ => ?_)
  obtain ⟨h1, h2⟩ := tyV_is I1 r1 ty
  refine ⟨T, id, pa, slot, hty, h1, h2, ?_⟩
  have hA := ha cpos pins s1 σ H1 _ I1 q1
  rw [hs] at hA ⊢
  refine Calls.callWith_builtin (by show (false || (backTo cpos (starEach es X.env)).any (·.1)) = false; rw [hplain] <;> rfl) (Calls.evalArgs_plain ?_)
  exact thn hA fun us s2 ⟨vs, H2, I2, r2, q2⟩ => hm pins s2 σ H2 x vs v us Q I2 r1 r2 q2
/- xs.append(e), list.index on a module's tuple .. are MtR facts of 06m -/
end
end L2

namespace L2
open PySem PySem.Spec PyProof.Rows

def MtM (X : Cx) (id : String) (r : V → List V → Hp → VK → Prop) : Prop :=
  ∀ (pins : List (Addr × Obj)) (s : Shared) (σ : St) (H : Hp) (x : V) (xs : List V) (v : Value) (us : List Value) (Q : VK), Inv X pins σ H s → RelV x v → Vals xs us → r x xs H Q →
    wpAny (model X.prog X.w) X.A (call (.builtin id) (v :: us)) (EP X pins σ Q) X.xe s

/-! ### lists of values -/
theorem Vals.one : ∀ {x : V} {us : List Value}, Vals [x] us → ∃ u, us = [u] ∧ RelV x u
  | _, _, .cons r .nil => ⟨_, rfl, r⟩
theorem Vals.eraseIdx : ∀ {xs : List V} {us : List Value} (i : Nat), Vals xs us → Vals (xs.eraseIdx i) (us.eraseIdx i)
  | _, _, _, .nil => .nil
  | _, _, 0, .cons _ t => t
  | _, _, i + 1, .cons r t => .cons r (Vals.eraseIdx i t)
theorem Vals.rep {xs : List V} {us : List Value} (h : Vals xs us) : ∀ k : Nat, Vals (List.replicate k xs).flatten (List.replicate k us).flatten
  | 0 => .nil
  | k + 1 => by
    rw [List.replicate_succ, List.replicate_succ, List.flatten_cons, List.flatten_cons]
    exact Vals.append h (Vals.rep h k)
theorem len_erase {α : Type} : ∀ (l : List α) (i : Nat), (l.eraseIdx i).length ≤ l.length
  | [], _ => Nat.le_refl _
  | _ :: _, 0 => Nat.le_succ _
  | _ :: r, i + 1 => Nat.succ_le_succ (len_erase r i)
theorem foldl_rep (its : List Value) : ∀ (k : Nat) (acc : List Value),
    List.foldl (fun x1 x2 => x1 ++ x2) acc.toArray (List.replicate k its.toArray) = (acc ++ (List.replicate k its).flatten).toArray
  | 0, acc => by simp
  | k + 1, acc => by
    have e : acc.toArray ++ its.toArray = (acc ++ its).toArray := by simp
    have e2 : (acc ++ its) ++ (List.replicate k its).flatten = acc ++ (List.replicate (k + 1) its).flatten := by
      rw [List.replicate_succ, List.flatten_cons, List.append_assoc]
    rw [← e2, ← foldl_rep its k (acc ++ its), ← e, List.replicate_succ, List.foldl_cons]

section
variable {X : Cx} {pins : List (Addr × Obj)} {σ : St} {H : Hp} {s : Shared} {l b : Addr} {xs ys zs : List V}

/-! ### the two steps: a tracked list is rewritten, a new list is laid -/
theorem Inv.lset {its its' : List Value} {n : Nat} {f : Array Value → Array Value} {t' : Nat} (I : Inv X pins σ H s) (hH : H l = some (.lst xs))
    (e : s.heap.get? l = some { cls := .type "list", data := .seq its.toArray n }) (hf : f its.toArray = its'.toArray) (hv : Vals ys its') (hz : ys.length ≤ sizeLine) :
    Inv X pins σ (upd H l (.lst ys)) { s with heap := s.heap.update l (Obj.mapSeq f), toks := t' } := by
  have q := PySem.IsL.update e f
  rw [hf] at q
  refine I.write (x := l) (e := l) (by rw [hH]; exact trivial) (.inl rfl) (fun b' u hb hu => (Heap.get?_update_other s.heap (Obj.mapSeq f) (Ne.symm hb)).trans hu) ⟨_, q⟩ ?_
  exact ⟨hz, its', _, hv, q⟩
theorem Inv.lnew {its : List Value} {t' : Nat} (I : Inv X pins σ H s) (hv : Vals ys its) (hz : ys.length ≤ sizeLine) :
    Inv X pins σ (upd H s.heap.objs.size (.lst ys)) { s with heap := s.heap.push { cls := .type "list", data := .seq its.toArray }, toks := t' } :=
  I.laid (fun _ _ q => Heap.get?_push_of_some _ q) (Nat.le_refl _) ⟨hz, its, 0, hv, Heap.get?_push_size _ rfl⟩
theorem Inv.fresh (I : Inv X pins σ H s) : H s.heap.objs.size = none := I.hok.fresh (Nat.le_refl _)
theorem Inv.lstM (I : Inv X pins σ H s) (hH : H l = some (.lst xs)) : xs.length ≤ sizeLine ∧ ∃ (its : List Value) (n : Nat), Vals xs its ∧ xs.length = its.length ∧ s.heap.get? l = some { cls := .type "list", data := .seq its.toArray n } := by
  obtain ⟨z, its, n, r, e⟩ := I.hok l _ hH
  exact ⟨z, its, n, r, r.length, e⟩

theorem notLongL {n : Nat} (h : n ≤ sizeLine) : Builtin.List.listTooLong n = false := by
  unfold Builtin.List.listTooLong
  exact decide_eq_false (by omega)
end

section
variable {X : Cx}

/-! ### methods -/
def rAppend : V → List V → Hp → VK → Prop := fun x vs H Q => ∃ l xs y, x = .ref l ∧ vs = [y] ∧ H l = some (.lst xs) ∧ xs.length < sizeLine ∧ Q .non (upd H l (.lst (xs ++ [y])))
theorem mt_append : MtM X "list.append" rAppend := by
  intro pins s σ H x vs v us Q I rx rv h
  obtain ⟨l, xs, y, rfl, rfl, hH, hz, q⟩ := h
  cases rx
  obtain ⟨u, rfl, ru⟩ := rv.one
  obtain ⟨z, its, n, r, hl, e⟩ := I.lstM hH
  refine call_meets F.slot_list_append ⟨_, e, rfl⟩ F.entry_list_append (F.args_list_append_2 _ _) (PySem.list_append l its.toArray n u (by rw [List.size_toArray]; omega)) ⟨e, ?_⟩
  refine ⟨.non, _, I.lset (its' := its ++ [u]) hH e (by simp) (r.append (.cons ru .nil)) ?_, rfl, q⟩
  rw [List.length_append, List.length_singleton]
  omega

def rExtend : V → List V → Hp → VK → Prop := fun x vs H Q => ∃ l b xs zs, x = .ref l ∧ vs = [.ref b] ∧ H l = some (.lst xs) ∧ H b = some (.lst zs) ∧ xs.length + zs.length ≤ sizeLine ∧ Q .non (upd H l (.lst (xs ++ zs)))
theorem mt_extend : MtM X "list.extend" rExtend := by
  intro pins s σ H x vs v us Q I rx rv h
  obtain ⟨l, b, xs, zs, rfl, rfl, hH, hB, hz, q⟩ := h
  cases rx
  obtain ⟨u, rfl, ru⟩ := rv.one
  cases ru
  obtain ⟨z, its, n, r, hl, e⟩ := I.lstM hH
  obtain ⟨z2, its2, n2, r2, hl2, e2⟩ := I.lstM hB
  have hsz : its.toArray.size + its2.toArray.size ≤ sizeLine := by rw [List.size_toArray, List.size_toArray]; omega
  have hlong : ¬ (!its.toArray.isEmpty && Builtin.List.listTooLong (its.toArray.size + its2.toArray.size)) = true := by
    rw [notLongL hsz, Bool.and_false]
    exact Bool.false_ne_true
  refine call_meets F.slot_list_extend ⟨_, e, rfl⟩ F.entry_list_extend (F.args_list_extend_2 _ _)
    (AutoSeq1.list_extend_list_list_0 l its.toArray n b its2.toArray n2 hlong (by rw [List.size_toArray]; omega) (by omega)) ⟨e, e2, ?_⟩
  refine ⟨.non, _, I.lset (its' := its ++ its2) hH e (by simp) (r.append r2) ?_, rfl, q⟩
  rw [List.length_append]
  omega

def rPopAt : V → List V → Hp → VK → Prop := fun x vs H Q => ∃ l xs i k y, x = .ref l ∧ vs = [.int i] ∧ H l = some (.lst xs) ∧ -(2 ^ 63) ≤ i ∧ i < 2 ^ 63 ∧ seqIndex? i xs.length = some k ∧ xs[k]? = some y ∧ Q y (upd H l (.lst (xs.eraseIdx k)))
theorem mt_popAt : MtM X "list.pop" rPopAt := by
  intro pins s σ H x vs v us Q I rx rv h
  obtain ⟨l, xs, i, k, y, rfl, rfl, hH, h1, h2, hk, hy, q⟩ := h
  cases rx
  obtain ⟨u, rfl, ru⟩ := rv.one
  obtain ⟨t, rfl⟩ := ru
  obtain ⟨z, its, n, r, hl, e⟩ := I.lstM hH
  obtain ⟨w, hw, rw'⟩ := r.get hy
  refine call_meets F.slot_list_pop ⟨_, e, rfl⟩ F.entry_list_pop (F.args_list_pop_2 _ _)
    (MeetsSeq.list_pop_at l its.toArray n i t k w (fitsIndex_both h1 h2) (by rw [List.size_toArray, ← hl]; exact hk) (by rw [← Array.getElem?_toList]; exact hw) (by rw [List.size_toArray]; omega)) ⟨e, ?_⟩
  refine ⟨y, _, I.lset (its' := its.eraseIdx k) hH e ?_ (r.eraseIdx k) ?_, rw', q⟩
  · show its.toArray.eraseIdxIfInBounds k = (its.eraseIdx k).toArray
    rw [List.eraseIdxIfInBounds_toArray]
  · have := len_erase xs k
    omega

/-! ### list + list, list += list, list * int -/
def rCat : R2 := fun x y H Q => ∃ l b xs zs, x = .ref l ∧ y = .ref b ∧ H l = some (.lst xs) ∧ H b = some (.lst zs) ∧ xs.length + zs.length ≤ sizeLine ∧ ∀ p, H p = none → Q (.ref p) (upd H p (.lst (xs ++ zs)))
theorem op_cat : OpR X (binaryOp .Add) rCat := by
  intro pins s σ H x y v u Q I rx ry h
  obtain ⟨l, b, xs, zs, rfl, rfl, hH, hB, hz, q⟩ := h
  cases rx
  cases ry
  obtain ⟨z, its, n, r, hl, e⟩ := I.lstM hH
  obtain ⟨z2, its2, n2, r2, hl2, e2⟩ := I.lstM hB
  refine PySem.P.add_list e e2 ?_ (by rw [List.size_toArray, List.size_toArray]; omega)
  have ea : its.toArray ++ its2.toArray = (its ++ its2).toArray := by simp
  rw [ea]
  exact ⟨.ref _, _, I.lnew (t' := s.toks) (r.append r2) (by rw [List.length_append]; omega), rfl, q _ I.fresh⟩
/-- a list times an int (a negative one is nothing) -/
def rRep : R2 := fun x y H Q => ∃ l k xs, x = .ref l ∧ y = .int k ∧ H l = some (.lst xs) ∧ -(2 ^ 63) ≤ k ∧ k < 2 ^ 63 ∧ xs.length * k.toNat ≤ sizeLine ∧
  ∀ p, H p = none → Q (.ref p) (upd H p (.lst (List.replicate k.toNat xs).flatten))
theorem len_rep {α : Type} (xs : List α) (k : Nat) : (List.replicate k xs).flatten.length = k * xs.length := by
  induction k with
  | zero => simp
  | succ k ih => rw [List.replicate_succ, List.flatten_cons, List.length_append, ih, Nat.succ_mul, Nat.add_comm]
theorem op_rep : OpR X (binaryOp .Mult) rRep := by
  intro pins s σ H x y v u Q I rx ry h
  obtain ⟨l, k, xs, rfl, rfl, hH, h1, h2, hz, q⟩ := h
  cases rx
  obtain ⟨t, rfl⟩ := ry
  obtain ⟨z, its, n, r, hl, e⟩ := I.lstM hH
  have hlen : its.toArray.size * k.toNat ≤ sizeLine := by rw [List.size_toArray, ← hl]; exact hz
  have hcap : ¬ its.toArray.size * k.toNat > (2 ^ 63 - 1) / 8 := by
    have : (sizeLine : Nat) ≤ (2 ^ 63 - 1) / 8 := by decide
    omega
  have hfit : ¬ (!Builtin.List.listFitsIndex k) = true := by
    rw [fitsIndex_both h1 h2]
    exact Bool.false_ne_true
  have hlong : ¬ Builtin.List.listTooLong (its.toArray.size * k.toNat) = true := by
    rw [notLongL hlen]
    exact Bool.false_ne_true
  have hnew : List.foldl (fun x1 x2 => x1 ++ x2) #[] (List.replicate (if its.toArray.isEmpty = true then 0 else k.toNat) its.toArray) = (List.replicate k.toNat its).flatten.toArray := by
    have f0 : ∀ m : Nat, List.foldl (fun x1 x2 => x1 ++ x2) #[] (List.replicate m its.toArray) = (List.replicate m its).flatten.toArray := fun m => by
      have := foldl_rep its m []
      rw [List.nil_append] at this
      exact this
    rw [f0]
    cases its with
    | nil => simp
    | cons a r' => rw [if_neg (by simp)]
  refine wpAny_binaryOp_repeat_ref (T := "list") (U := "int") (by decide) ⟨_, e, rfl⟩ (fun s' => typeIs_int s' k t) noFill_list_mul F.fills_int_mul F.slot_int_rmul repeat_list F.slot_int_index.lookup
    (call_meets F.slot_int_rmul (typeIs_int s k t) F.entry_int_rmul (F.args_int_rmul_2 _ _) (int___rmul___int_list k t l its.toArray n)
      ⟨e, rfl, ⟨_, e, rfl⟩, call_meets F.slot_list_mul ⟨_, e, rfl⟩ F.entry_list_mul (F.args_list_mul_2 _ _) (AutoListH.list___mul___list_int_3 l its.toArray n k t hfit hcap hlong) ⟨e, ?_⟩⟩)
  rw [hnew]
  exact ⟨.ref _, _, I.lnew (t' := s.toks) (r.rep k.toNat) (by rw [len_rep, Nat.mul_comm]; exact hz), rfl, q _ I.fresh⟩

/-! ### del xs[i] -/
end

/-! ### xs[a:b] = ys -/
section
variable {prog : Program} {w : World} {A : Around} {E : Value → Shared → Prop} {s : Shared}
end

section
variable {X : Cx}
end
end L2

namespace Att
open PySem PySem.W PySem.Calls PyProof.Rows

/-! ### the script -/
theorem ints_of_wellAll {P : Params} {h : Heap} : ∀ (ns : List Int) (vs : List Value), WellAll P h vs (ns.map WData.int) → IntsAre vs ns := by
  intro ns
  induction ns with
  | nil =>
    intro vs w
    rw [List.map_nil] at w
    cases w
    exact .nil
  | cons n ns ih =>
    intro vs w
    rw [List.map_cons] at w
    cases w with
    | cons a b =>
      cases a
      exact .cons _ _ (ih _ b)

theorem script_of {l : OpenLaw} {n : Nat} (hn : l.most = some n) {P : Params} {h : Heap} {args : List WData} {vals : List Value}
    (hpre : l.row.toRowW.claim.pre args = true) (hwl : WellAll P h vals args) :
    ∃ a vs ns, vals = [Value.ref a] ∧ args = [WData.list (ns.map WData.int)] ∧ h.get? a = some { cls := .type "list", data := .seq vs.toArray } ∧ IntsAre vs ns ∧ ns.length ≤ n := by
  have hsh : WShape.hasAll [] args [.list .int] = true := (pre_splitW hpre).1
  have hc : l.pre.holds [] { args := args } = true := (pre_splitW hpre).2
  obtain ⟨d, r, rfl, h1, h2⟩ := hasAllW_cons hsh
  obtain rfl := hasAllW_nil h2
  obtain ⟨xs, rfl, h3⟩ := hasW_list h1
  obtain ⟨ns, rfl⟩ := items_int h3
  have hlen : ns.length ≤ n := by
    unfold OpenLaw.pre at hc
    have h4 : (WTm.not (.lt (.lit (.int (n : Int))) (.len (.arg 0)))).holds [] { args := [.list (ns.map .int)] } = true := by
      have h4 := (holds_andW hc).1
      rw [hn] at h4
      exact h4
    have h5 := condW_of h4 (w_not (w_lt w_lit (w_len_list (w_arg rfl))))
    rw [List.length_map] at h5
    refine Nat.le_of_not_lt fun q => ?_
    have q' : (n : Int) < ((ns.length : Nat) : Int) := by omega
    first
      | (rw [decide_eq_true q'] at h5; exact absurd h5 (by decide))
      | (simp at h5; omega)
  cases hwl with
  | cons w1 w2 =>
    cases w2
    cases w1 with
    | list ho hall => exact ⟨_, _, ns, rfl, rfl, ho, ints_of_wellAll ns _ hall, hlen⟩

theorem post_true (l : OpenLaw) (args : List WData) : l.row.toRowW.claim.post args (.bool true) args = true :=
  postW_of (r := l.row.toRowW) (X := (true == true))
    (show WShape.has [] (.bool true) .bool = true by first | rfl | decide | simp [WShape.has, WShape.arms, WShape.armsAll])
    (show (WTm.eq .res (.lit (.bool true))).value [] { args := args, res := some (.bool true), after := args } = some (.bool (true == true)) from w_eq_bool (w_res rfl) w_lit) rfl

/-! ### the attachment: holds_open's last premise (the goal 'hc' behind k_head) from a wpAny of the law's body -/
/-- the same from a codeAny of the CALL (for a layer whose function contracts speak of calls) -/
theorem attach_call {l : OpenLaw} {n : Nat} {q : Program} {loose : List Str} {XP : (Str → Option Value) → Heap → Prop} {YP : World → Heap → Prop} {d : DefRec}
    (hn : l.most = some n) (hdf : d.params.defaults = [])
    (call : ∀ (w : World) (s₀ s₁ : Shared) (mg mb : Str → Option Value) (fa : Addr) (o : Obj) (pm cd doc : Value) (a : Addr) (vs : List Value) (ns : List Int),
      Ground q loose [] XP w s₀ mg mb s₁.heap → YP w s₁.heap →
      s₁.heap.get? fa = some o → o.data = .func (docDef d.name d.params d.body d.scope pm cd doc) → s₁.heap.CodeRec cd d.name → mg d.name = some (.ref fa) →
      s₁.heap.get? a = some { cls := .type "list", data := .seq vs.toArray } → IntsAre vs ns → ns.length ≤ n → s₁.gens = #[] →
      codeAny (model l.prog w) callerA (.call (.ref fa) ⟨[.ref a], []⟩) (fun r s' => r = .ok (.ret (.bool true)) ∧ OldK s₁.heap s'.heap ∧ s'.os = s₁.os ∧ AllBare s'.gens) s₁) :
    WalkO q loose XP YP l.row.toRowW d [] (fun f vs => PySem.call f vs) := by
  intro w s₀ s₁ mg mb G Y fa o pm cd doc dV kV ho hd hcd hD hmg hg args vals as hpre hlay hrd hwl hlo
  obtain rfl : dV = .none := Dflts.none hD hdf
  obtain rfl : kV = .none := Dflts.noKw hD
  obtain ⟨a, vs, ns, rfl, rfl, hobj, hints, hlen⟩ := script_of hn hpre hwl
  refine enter_call (codeAny_mono (call w s₀ s₁ mg mb fa o pm cd doc a vs ns G Y ho (fd_plain hd) hcd hmg hobj hints hlen hg) fun r s' hq => ?_)
  obtain ⟨rfl, h2, h3, h4⟩ := hq
  exact ⟨.inl ⟨.bool true, .bool true, [], rfl, fun _ => rfl, .bool true, post_true l _, fun _ => ⟨List.Pairwise.nil, fun _ hm => (nomatch hm)⟩⟩, h2, h3, h4⟩

/-! ### rules over ANY heap (no ledger) from facts about the written part K: the library's own take a ledger (News) for what they write -/
section
variable {prog : Program} {w : World} {A : Around} {E : Value → Shared → Prop} {s : Shared} {K : Frag}

/-! the whole heap as the ledger: makes every rule that writes through a ledger a rule over any heap -/
end
end Att

namespace L2
open PySem PySem.Spec PyProof.Rows

theorem vals_ints : ∀ {vs : List Value} {ns : List Int}, IntsAre vs ns → Vals (ns.map V.int) vs
  | _, _, .nil => .nil
  | _, _, .cons n t h => .cons ⟨t, rfl⟩ (vals_ints h)

/-- nothing is tracked but the script, known to the object (or it is an object of the module) -/
def Only (H : Hp) : Prop := ∀ b, H b = none ∨ ∃ o xs, H b = some (.frz o (.lst xs))

/-- THE HEAD: the law's promise, at the heap behind the top. F, the promise of the law's def, may use that base is part of the heap (so K.In base, base.Ns mainGlobals mg stand in Mod) -/
theorem law_call {P : Program} {w : World} {K : PySem.W.Frag} {mg mb : Str → Option Value} {CX : CXT} {k : Nat} {fa a : Addr} {fd : FuncData} {x : Str} {sp : Sp} {s₁ : Shared} {vs : List Value} {ns : List Int}
    (KX : K.In s₁.heap) (hns : s₁.heap.Ns mainGlobals mg) (hb : s₁.heap.Ns builtinsNs mb) (hbb : ∀ x : Str, x ≠ "__name__" → mb x = bootBuiltins x) (hlim : s₁.heap.NoLimit) (hg : s₁.gens = #[])
    (ha : s₁.heap.get? a = some { cls := .type "list", data := .seq vs.toArray }) (hi : IntsAre vs ns) (hl : ns.length ≤ sizeLine) (hr : Room k callerA)
    (F : ∀ base : Heap, K.In base → base.Ns mainGlobals mg → FnOk P w K mg base CX k fa fd [x] sp) (hbind : ∀ (s : Shared) (u : Value), BindsTo s fd ⟨[u], []⟩ [(x, u)])
    (hsp : ∀ H : Hp, Only H → SqL K H a (ns.map V.int) → sp [.ref a] H (fun v _ => v = .bl true) fun _ _ _ => False)
    (hCX : ∀ H e s', CX [] H s₁ (fun _ _ _ => False) e s' → False) :
    codeAny (model P w) callerA (.call (.ref fa) ⟨[.ref a], []⟩) (fun r s' => r = .ok (.ret (.bool true)) ∧ OldK s₁.heap s'.heap ∧ s'.os = s₁.os ∧ AllBare s'.gens) s₁ := by
  have rv := vals_ints hi
  have lenV := hi.length
  -- from an abstract heap in which nothing but the script may be tracked
  have core : ∀ H : Hp, Only H → SqL K H a (ns.map V.int) → HOk P w H s₁.heap → (∀ b, H b ≠ none → b = a) → (H a ≠ none → K.lookup a = none) →
      codeAny (model P w) callerA (.call (.ref fa) ⟨[.ref a], []⟩) (fun r s' => r = .ok (.ret (.bool true)) ∧ OldK s₁.heap s'.heap ∧ s'.os = s₁.os ∧ AllBare s'.gens) s₁ := by
    intro H hO hS hok hA hK
    have base_of : ∀ {b : Addr} {o : Obj}, s₁.heap.get? b = some o → H b = none → (hidT s₁.heap H).get? b = some o := fun e n => hidT_get e n
    have noA : ∀ {b : Addr} {o : Obj} {es : Array DictEntry} {ep : Nat}, s₁.heap.get? b = some o → o.data = .dict es ep → H b = none := fun {b o es ep} e d => by
      cases q : H b with
      | none => rfl
      | some u =>
        have e' : b = a := hA b (by rw [q]; simp)
        subst e'
        rw [ha] at e; cases e
        have d' : Data.seq vs.toArray _ = Data.dict es ep := d
        cases d'
    have nsK : ∀ {b : Addr} {m : Str → Option Value}, s₁.heap.Ns b m → (hidT s₁.heap H).Ns b m := fun {b m} ⟨o, es, ep, e, d, r⟩ => ⟨o, es, ep, base_of e (noA e d), d, r⟩
    have hKb : K.In (hidT s₁.heap H) := fun b o e => base_of (KX b o e) (by
      cases q : H b with
      | none => rfl
      | some u =>
        have e' : b = a := hA b (by rw [q]; simp)
        subst e'
        rw [hK (by rw [q]; simp)] at e; cases e)
    have hM : Mod K mg (hidT s₁.heap H) := ⟨hKb, nsK hns, ⟨mb, nsK hb, hbb⟩, let ⟨mc, h1, h2⟩ := hlim; ⟨mc, nsK h1, h2⟩⟩
    have e0 : Env0 P w K mg (hidT s₁.heap H) callerA [] s₁ H := ⟨rfl, hM, fun b o e => of_hidT e, Nat.le_of_eq (hidT_size _ _), trivial, fun b hb => absurd (show b ∈ ([] : List Addr) from hb) (by simp), hok, .of_eq hg⟩
    refine codeAny_mono ((F _ hKb (nsK hns)).run callerA [] s₁ H ⟨[.ref a], []⟩ [.ref a] [.ref a] _ _ hr e0 (hbind s₁ (.ref a)) (.cons rfl .nil) (hsp H hO hS)) fun r s' h => ?_
    cases r with
    | error e => exact (hCX H e s' h).elim
    | ok fl =>
      cases fl with
      | next => exact False.elim h
      | brk => exact False.elim h
      | cont => exact False.elim h
      | ret u =>
        obtain ⟨v, H', os, bare, un, hok', r', q⟩ := h
        have q' : v = .bl true := q
        subst q'
        obtain rfl : u = Value.bool true := r'
        refine ⟨rfl, OldK.of_keep fun b o e => ?_, os, bare⟩
        cases q : H b with
        | none => exact un.keep b o e q (by intro z; exact absurd (show b ∈ ([] : List Addr) from z) (by simp)) (by simp)
        | some u =>
          rcases hO b with z | ⟨ob, xs, z⟩
          · rw [q] at z; cases z
          · have z2 := un.frzs b ob _ z
            obtain ⟨e1, _⟩ := hok b _ z
            obtain ⟨e2, _⟩ := hok' b _ z2
            rw [e] at e1; cases e1
            exact e2
  cases hk : K.lookup a with
  | some o =>
    -- the script is one of the module's own objects
    have e := KX a o hk
    rw [ha] at e
    cases e
    refine core (fun _ => none) (fun _ => .inl rfl) (.inr ⟨_, vs.toArray, _, hk, rfl, rfl, rfl, by rw [List.size_toArray, lenV]; exact hl, by simpa using rv⟩) (fun b u z => by have z' : (none : Option HO) = some u := z; cases z') (fun b z => absurd rfl z) fun z => absurd rfl z
  | none =>
    refine core (fun b => if b = a then some (.frz { cls := .type "list", data := .seq vs.toArray } (.lst (ns.map V.int))) else none) (fun b => ?_) (.inl (.inr ⟨{ cls := .type "list", data := .seq vs.toArray }, if_pos rfl⟩)) (fun b u z => ?_) (fun b z => ?_) fun _ => hk
    · by_cases hb : b = a
      · exact .inr ⟨_, _, if_pos hb⟩
      · exact .inl (if_neg hb)
    · by_cases hb : b = a
      · have z' := (if_pos hb).symm.trans z
        cases z'
        subst hb
        exact ⟨ha, by rw [List.length_map]; exact hl, vs, _, rv, ha⟩
      · have z' := (if_neg hb).symm.trans z
        cases z'
    · by_cases hb : b = a
      · exact hb
      · exact absurd (if_neg hb) z
end L2

namespace L2
open PySem PySem.Spec PyProof.Rows

abbrev KOf {K : PySem.W.Frag} {h : Heap} (_ : K.In h) : PySem.W.Frag := K

/-- the goal that k_head leaves (case hc), from the law's promise. F gives the function object fd (K's own) once, then the promise over every base -/
theorem walk_of {l : PySem.W.OpenLaw} {n k : Nat} {q : Program} {loose : List Str} {XP : (Str → Option Value) → Heap → Prop} {YP : World → Heap → Prop} {d : DefRec} {K : Params → PySem.W.Frag} {CX : World → CXT} {sp : World → Sp} {x : Str}
    (hn : l.most = some n) (hn2 : n ≤ sizeLine) (hdf : d.params.defaults = []) (hr : Room k callerA)
    (hY : ∀ (w : World) (h : Heap), YP w h → (K w.params).In h)
    (F : ∀ (w : World) (mg : Str → Option Value) (fa : Addr) (h : Heap), (K w.params).In h → h.Ns mainGlobals mg → mg d.name = some (.ref fa) →
      ∃ fd : FuncData, (∀ (s : Shared) (u : Value), BindsTo s fd ⟨[u], []⟩ [(x, u)]) ∧
        ∀ base : Heap, (K w.params).In base → base.Ns mainGlobals mg → FnOk l.prog w (K w.params) mg base (CX w) k fa fd [x] (sp w))
    (hsp : ∀ (w : World) (H : Hp) (a : Addr) (ns : List Int), ns.length ≤ n → Only H → SqL (K w.params) H a (ns.map V.int) → sp w [.ref a] H (fun v _ => v = .bl true) fun _ _ _ => False)
    (hCX : ∀ (w : World) (H : Hp) (s : Shared) (e : Value) (s' : Shared), CX w [] H s (fun _ _ _ => False) e s' → False) :
    PySem.W.WalkO q loose XP YP l.row.toRowW d [] (fun f vs => PySem.call f vs) := by
  refine Att.attach_call hn hdf fun w s₀ s₁ mg mb fa o pm cd doc a vs ns G Y ho hd hcd hmg hobj hints hlen hg => ?_
  have KX := hY w _ Y
  obtain ⟨fd, hb, hF⟩ := F w mg fa _ KX G.T.g hmg
  exact law_call KX G.T.g G.T.b G.T.builtins G.T.nolimit hg hobj hints (Nat.le_trans hlen hn2) hr hF hb (fun H hO hS => hsp w H a ns hlen hO hS) fun H e s' => hCX w H s₁ e s'
end L2

/- THE LAST THEOREM (shape; LID, My.* are yours):
   My.Adr: a structure of the addresses that your layer names (classes, functions); My.Txt K t: a structure (Prop) of the equations over K;
   My.txt_mk : {K} {implicit addresses ..} (e1 : nsIn K mainGlobals "law" = some (some (.ref f))) (e2 : K.lookup f = some ⟨oc, od, .func (fnOf "law" "law" params body scope dV kV doc pm an cdv ct), sl⟩) (e3 : codeIn K cdv "law" = true) .. : ∃ t, My.Txt K t

set_option maxRecDepth 100000 in
set_option maxHeartbeats 0 in
theorem PySem.Challenge.cw_LID_holds : PySem.Challenge.rw_LID.Holds := by
  w_on; o_law; k_head; (case hw => w_witness2)
  k_fill
  refine L2.walk_of (l := PySem.Challenge.rw_LID) (n := 63) (k := 40) (x := "script") (CX := fun w => ..) (sp := fun _ => My.sp_law) rfl (by decide) rfl ⟨rfl, by decide, by decide⟩ (fun w h Y => PySem.W.kIn_of Y) ?F ?S ?C
  case F =>
    intro w mg fa h KX G hmg
    have T : ∃ t, My.Txt (L2.KOf KX) t := by
      dsimp only [L2.KOf]                          -- K must stand as «<heap const> w.params» for k_is
      refine' My.txt_mk ?e1 ?e2 ?e3 ..
      (case e1 => PySem.W.k_is)                    -- in the order: a name -> its address -> its object -> its parts
      (case e2 => PySem.W.k_is)
      ..
    obtain ⟨t, T⟩ := T
    have e0 := hmg.symm.trans (PySem.W.mg_of KX G T.law)
    cases e0                                       -- fa is the law's own address
    exact ⟨_, fun s u => .of_eq rfl, fun base kb nb => My.law_fn T kb nb⟩     -- if «.of_eq rfl» comes too early: refine' ⟨_, ?b, fun base kb nb => My.law_fn T kb nb⟩; exact fun s u => .of_eq rfl
  case S => exact fun w H a ns hl hO hS => ..
  case C => exact ..
(the tactic k_is has no namespace: write k_is) -/

/-! SHORT WORDS over the layer: a def of the text, its body, what a loop and a test want. -/
namespace L2
open PySem PySem.Spec PyProof.Rows

/-! ### the text by places -/
def defArgs (s : Stmt) : Arguments := match s with
  | .FunctionDef _ a _ _ _ _ _ _ _ _ => a
  | _ => { posonlyargs := [], args := [], vararg := none, kwonlyargs := [], kw_defaults := [], kwarg := none, defaults := [] }
def defBody (s : Stmt) : List Stmt := match s with
  | .FunctionDef _ _ b _ _ _ _ _ _ _ => b
  | _ => []
def defScope (s : Stmt) : Scope := match s with
  | .FunctionDef _ _ _ _ _ _ sc _ _ _ => sc
  | _ => { kind := .function, names := [], isGenerator := false, isCoroutine := false }

/-! ### no exception leaves a def -/
abbrev CX0 : CXT := fun _ _ _ _ _ _ => False
abbrev E0 : XK := fun _ _ _ => False
theorem pass0 {X : Cx} : Passes CX0 X E0 := fun _ _ _ _ _ _ _ h => h.elim

/-! ### a def (or method) of the text as it stands behind the top -/
structure Fun (K : PySem.W.Frag) (x qual : Str) (st : Stmt) (f : Addr) (fd : FuncData) : Prop where
  ex : ∃ (oc : Value) (od : Option Addr) (kV doc pm : Value) (an : Option Addr) (cdv ct : Value) (osl : Array (Option Value)),
    fd = PySem.W.fnOf x qual (defArgs st) (defBody st) (defScope st) .none kV doc pm an cdv ct ∧ K.lookup f = some ⟨oc, od, .func fd, osl⟩ ∧ PySem.W.codeIn K cdv qual = true
  kp : PySem.W.keepIn K (.ref f) = true
section
variable {P : Program} {w : World} {K : PySem.W.Frag} {mg : Str → Option Value} {base : Heap}
/-- THE RULE for a def: its body as a term of rules, and the reading of that term -/
theorem Fun.ok {x qual : Str} {st : Stmt} {f : Addr} {fd : FuncData} {N ps : List Str} {k : Nat} {sp : Sp} (F : Fun K x qual st f fd) (S : FnScope N ps (defScope st)) (len : ∀ vs H Q E, sp vs H Q E → vs.length = ps.length)
    (hbody : ∀ (cdv : Value) (A : Around) (outer : List Env) (s : Shared) (H : Hp) (vs : List V) (Q : VK) (E : XK), Room k (A.deeper (envOfC qual (defScope st) s.heap.objs.size f cdv)) → sp vs H Q E →
      ∃ t, PSs (cxOf CX0 P w K mg base N qual (defScope st) f cdv A outer s H E).nox (defBody st) t ∧ t { nx := fun _ H' => Q .non H', rt := Q } (start N vs) H) : FnOk P w K mg base CX0 (k + 1) f fd ps sp := by
  obtain ⟨oc, od, kV, doc, pm, an, cdv, ct, osl, rfl, lk, hcd⟩ := F.ex
  refine fn_of lk hcd S len fun A outer s H vs Q E hr hsp => ?_
  obtain ⟨t, h, q⟩ := hbody cdv A outer s H vs Q E hr hsp
  exact ⟨t, h.nox, q⟩
/-- how its arguments bind (no defaults): h is «fun _ _ _ _ _ _ us hl => match us, hl with | [_, _], _ => rfl», one _ a parameter -/
theorem Fun.binds {x qual : Str} {st : Stmt} {f : Addr} {fd : FuncData} {ps : List Str} (F : Fun K x qual st f fd)
    (h : ∀ (kV doc pm : Value) (an : Option Addr) (cdv ct : Value) (us : List Value), us.length = ps.length → bindArgs (PySem.W.fnOf x qual (defArgs st) (defBody st) (defScope st) .none kV doc pm an cdv ct) ⟨us, []⟩ = pure (ps.zip us)) : Binds K fd ps [] := by
  obtain ⟨oc, od, kV, doc, pm, an, cdv, ct, osl, rfl, lk, hcd⟩ := F.ex
  exact .all (h kV doc pm an cdv ct)
theorem fun_mk {x qual : Str} {st : Stmt} {f : Addr} {oc : Value} {od an : Option Addr} {osl : Array (Option Value)} {kV doc pm cdv ct : Value} (l : K.lookup f = some ⟨oc, od, .func (PySem.W.fnOf x qual (defArgs st) (defBody st) (defScope st) .none kV doc pm an cdv ct), osl⟩)
    (c : PySem.W.codeIn K cdv qual = true) (k : PySem.W.keepIn K (.ref f) = true) : Fun K x qual st f (PySem.W.fnOf x qual (defArgs st) (defBody st) (defScope st) .none kV doc pm an cdv ct) := ⟨⟨oc, od, kV, doc, pm, an, cdv, ct, osl, rfl, l, c⟩, k⟩
end
/-! ### expressions in short: the name that stands in the i-th slot -/
section
variable {X : Cx}
end

/-! ### tests -/
theorem iteF {A B : Prop} (h : B) : if false = true then A else B := by
  rw [if_neg Bool.false_ne_true]
  exact h
theorem iteT {A B : Prop} (h : A) : if true = true then A else B := by
  rw [if_pos rfl]
  exact h
/-! ### heaps -/
/-- all that was tracked is as it was -/
def Same (H H' : Hp) : Prop := ∀ b o, H b = some o → H' b = some o
theorem Same.refl (H : Hp) : Same H H := fun _ _ h => h
theorem Same.trans {H H1 H2 : Hp} (a : Same H H1) (b : Same H1 H2) : Same H H2 := fun c o h => b c o (a c o h)
theorem Same.free {H H' : Hp} (e : Same H H') {l : Addr} (h : H' l = Option.none) : H l = Option.none := by
  cases q : H l with
  | none => rfl
  | some o =>
    rw [e l o q] at h
    cases h
theorem Same.seq {K : PySem.W.Frag} {H H' : Hp} {a : Addr} {xs : List V} (e : Same H H') (h : SqL K H a xs) : SqL K H' a xs := by
  rcases h with (h | ⟨o, h⟩) | h
  · exact .inl (.inl (e _ _ h))
  · exact .inl (.inr ⟨o, e _ _ h⟩)
  · exact .inr h

end L2

set_option Elab.async false
set_option maxRecDepth 100000
set_option maxHeartbeats 4000000
namespace SB
open PySem PyProof.Rows

structure SI (a0 : Array Keyed) (st : SortSt) : Prop where
  perm : (arrOf st).Perm a0
  kind : kindOf st = oneType'
  failed : failedOf st = none
theorem SI.size {a0 : Array Keyed} {st : SortSt} (h : SI a0 st) : (arrOf st).size = a0.size := h.perm.size_eq
theorem SI.setArr {a0 : Array Keyed} {st : SortSt} (h : SI a0 st) {xs : Array Keyed} (hp : xs.Perm (arrOf st)) : SI a0 (setArr st xs) := ⟨hp.trans h.perm, h.kind, h.failed⟩
theorem SI.keys {a0 : Array Keyed} {st : SortSt} (h : SI a0 st) (h0 : IntKeys a0) : IntKeys (arrOf st) := fun p hp => h0 p ((Array.perm_iff_toList_perm.mp h.perm).mem_iff.mp hp)
theorem ik_at {xs : Array Keyed} (h : IntKeys xs) {i : Nat} (hi : i < xs.size) : ∃ p, xs[i]? = some p ∧ ∃ n t, p.1 = Value.int n t :=
  ⟨xs[i], getElem?_pos xs i hi, h _ (by simp)⟩
def gallop' : Bool → Keyed → Array Keyed → Nat → Nat → Nat → StateT SortSt Sem (Option Nat) := sortPriv% PySem.Builtin.gallop
def mergeLo' : Array Keyed → Array Keyed → StateT SortSt Sem (Array Keyed) := sortPriv% PySem.Builtin.mergeLo
def mergeHi' : Array Keyed → Array Keyed → StateT SortSt Sem (Array Keyed) := sortPriv% PySem.Builtin.mergeHi
def setMinGallop' : Nat → StateT SortSt Sem Unit := sortPriv% PySem.Builtin.setMinGallop
section
variable {prog : Program} {w : World} {A : Around} {E : Value → Shared → Prop} {s : Shared} {a0 : Array Keyed}
theorem wpS_elem {arr : Array Keyed} {i : Nat} {p : Keyed} {Q : Keyed → SortSt → Prop} {st : SortSt} (hp : arr[i]? = some p) (h : Q p st) : wpS (model prog w) A E s (elem' arr i) Q st := by
  rw [elem'_eq, hp]; exact wpS_pure h
/-- the state is a good one with that pending stack -/
def G (a0 : Array Keyed) (pe : Array (Nat × Nat × Nat)) (st : SortSt) : Prop := SI a0 st ∧ pendingOf st = pe

theorem setMin'_eq (g : Nat) : setMinGallop' g = modify fun s => SortSt.mk' (kindOf s) (arrOf s) (pendingOf s) g (failedOf s) := rfl
/-- what was laid out so far -/
def Laid (a b : Array Keyed) (ia ib : Nat) (out : Array Keyed) : Prop := out.toList.Perm (a.toList.take ia ++ b.toList.take ib)
theorem take_at {xs : Array Keyed} {i : Nat} {p : Keyed} (h : xs[i]? = some p) : xs.toList.take (i + 1) = xs.toList.take i ++ [p] := by
  have h' : xs.toList[i]? = some p := by simpa using h
  rw [List.take_add_one, h']; rfl
theorem Laid.b {a b : Array Keyed} {ia ib : Nat} {out : Array Keyed} (h : Laid a b ia ib out) {p : Keyed} (hp : b[ib]? = some p) : Laid a b ia (ib + 1) (out.push p) := by
  unfold Laid at h ⊢
  rw [take_at hp, Array.toList_push, ← List.append_assoc]
  exact h.append_right _
theorem Laid.a {a b : Array Keyed} {ia ib : Nat} {out : Array Keyed} (h : Laid a b ia ib out) {p : Keyed} (hp : a[ia]? = some p) : Laid a b (ia + 1) ib (out.push p) := by
  unfold Laid at h ⊢
  rw [take_at hp, Array.toList_push, List.append_assoc]
  refine (h.append_right _).trans ?_
  rw [List.append_assoc]
  exact (List.perm_append_comm).append_left _
theorem ext_list (xs : Array Keyed) (i j : Nat) : (xs.extract i j).toList = (xs.toList.take j).drop i := by
  rw [Array.toList_extract, List.extract_eq_take_drop, List.drop_take]
theorem take_ext (xs : Array Keyed) (i k : Nat) : xs.toList.take (i + k) = xs.toList.take i ++ (xs.extract i (i + k)).toList := by
  rw [ext_list]
  have := List.take_append_drop i (xs.toList.take (i + k))
  rw [List.take_take, Nat.min_eq_left (by omega)] at this
  exact this.symm
theorem Laid.ak {a b : Array Keyed} {ia ib : Nat} {out : Array Keyed} (h : Laid a b ia ib out) (k : Nat) : Laid a b (ia + k) ib (out ++ a.extract ia (ia + k)) := by
  unfold Laid at h ⊢
  rw [take_ext, Array.toList_append, List.append_assoc]
  refine (h.append_right _).trans ?_
  rw [List.append_assoc]
  exact (List.perm_append_comm).append_left _
theorem Laid.bk {a b : Array Keyed} {ia ib : Nat} {out : Array Keyed} (h : Laid a b ia ib out) (k : Nat) : Laid a b ia (ib + k) (out ++ b.extract ib (ib + k)) := by
  unfold Laid at h ⊢
  rw [take_ext, Array.toList_append, ← List.append_assoc]
  exact h.append_right _
theorem Laid.all {a b : Array Keyed} {ia ib : Nat} {out : Array Keyed} (h : Laid a b ia ib out) (ha : ia ≤ a.size) (hb : ib ≤ b.size) :
    (out ++ a.extract ia a.size ++ b.extract ib b.size).toList.Perm (a.toList ++ b.toList) := by
  obtain ⟨j, hj⟩ : ∃ j, a.size = ia + j := ⟨a.size - ia, by omega⟩
  obtain ⟨k, hk⟩ : ∃ k, b.size = ib + k := ⟨b.size - ib, by omega⟩
  have q := (h.ak j).bk k
  rw [← hj, ← hk] at q
  unfold Laid at q
  rw [List.take_of_length_le (by simp), List.take_of_length_le (by simp)] at q
  exact q
theorem Laid.all' {a b : Array Keyed} {ia ib : Nat} {out : Array Keyed} (h : Laid a b ia ib out) (ha : ia ≤ a.size) (hb : ib ≤ b.size) :
    (out ++ b.extract ib b.size ++ a.extract ia a.size).toList.Perm (a.toList ++ b.toList) := by
  obtain ⟨j, hj⟩ : ∃ j, a.size = ia + j := ⟨a.size - ia, by omega⟩
  obtain ⟨k, hk⟩ : ∃ k, b.size = ib + k := ⟨b.size - ib, by omega⟩
  have q := (h.bk k).ak j
  rw [← hj, ← hk] at q
  unfold Laid at q
  rw [List.take_of_length_le (by simp), List.take_of_length_le (by simp)] at q
  exact q
theorem wpS_ite {α : Type} {c : Prop} [Decidable c] {t e : StateT SortSt Sem α} {Q : α → SortSt → Prop} {st : SortSt} {M : Model} (h1 : c → wpS M A E s t Q st) (h2 : ¬ c → wpS M A E s e Q st) :
    wpS M A E s (if c then t else e) Q st := by
  by_cases h : c
  · rw [if_pos h]; exact h1 h
  · rw [if_neg h]; exact h2 h
theorem wpS_iteB {α : Type} {x y : Nat} {t e : StateT SortSt Sem α} {Q : α → SortSt → Prop} {st : SortSt} {M : Model} (h1 : x = y → wpS M A E s t Q st) (h2 : x ≠ y → wpS M A E s e Q st) :
    wpS M A E s (if (x == y) = true then t else e) Q st :=
  wpS_ite (fun h => h1 (by simpa using h)) fun h => h2 (by simpa using h)
theorem wpS_elemB {arr : Array Keyed} {i : Nat} {Q : Keyed → SortSt → Prop} {st : SortSt} (ha : IntKeys arr) (hi : i < arr.size) (h : ∀ p, arr[i]? = some p → (∃ n t, p.1 = Value.int n t) → Q p st) :
    wpS (model prog w) A E s (elem' arr i) Q st := by
  obtain ⟨p, e, k⟩ := ik_at ha hi
  exact wpS_elem e (h p e k)
/-- as G, and the array is xs -/
def GX (a0 : Array Keyed) (pe : Array (Nat × Nat × Nat)) (xs : Array Keyed) (st : SortSt) : Prop := G a0 pe st ∧ arrOf st = xs
theorem wpS_setMin {g : Nat} {pe : Array (Nat × Nat × Nat)} {xs : Array Keyed} {Q : Unit → SortSt → Prop} {st : SortSt} (hB : GX a0 pe xs st) (h : ∀ st', GX a0 pe xs st' → Q () st') :
    wpS (model prog w) A E s (setMinGallop' g) Q st := by
  rw [setMin'_eq]
  exact wpS_modify (h _ ⟨⟨⟨hB.1.1.perm, hB.1.1.kind, hB.1.1.failed⟩, hB.1.2⟩, hB.2⟩)
structure Mid (a b : Array Keyed) (c0 ia ib : Nat) (out : Array Keyed) : Prop where
  laid : Laid a b ia ib out
  ha : ia + 1 < a.size
  hb : ib < b.size
  pr : c0 ≤ ia + ib
/-- what was laid out from behind so far -/
def LaidH (a b : Array Keyed) (na nb : Nat) (out : Array Keyed) : Prop := out.toList.Perm (a.toList.drop na ++ b.toList.drop nb)
theorem drop_at {xs : Array Keyed} {i : Nat} {p : Keyed} (h : xs[i]? = some p) : xs.toList.drop i = p :: xs.toList.drop (i + 1) := by
  have h' : xs.toList[i]? = some p := by simpa using h
  obtain ⟨hi, e⟩ := List.getElem?_eq_some_iff.mp h'
  rw [List.drop_eq_getElem_cons hi, e]
theorem LaidH.b {a b : Array Keyed} {na nb : Nat} {out : Array Keyed} (h : LaidH a b na nb out) (h1 : 1 ≤ nb) {p : Keyed} (hp : b[nb - 1]? = some p) : LaidH a b na (nb - 1) (out.push p) := by
  unfold LaidH at h ⊢
  rw [drop_at hp, Array.toList_push, Nat.sub_add_cancel h1]
  refine (h.append_right _).trans ?_
  rw [List.append_assoc]
  exact (List.perm_append_comm).append_left _
theorem LaidH.a {a b : Array Keyed} {na nb : Nat} {out : Array Keyed} (h : LaidH a b na nb out) (h1 : 1 ≤ na) {p : Keyed} (hp : a[na - 1]? = some p) : LaidH a b (na - 1) nb (out.push p) := by
  unfold LaidH at h ⊢
  rw [drop_at hp, Array.toList_push, Nat.sub_add_cancel h1]
  refine (h.append_right _).trans ?_
  exact List.perm_append_singleton _ _
theorem drop_ext (xs : Array Keyed) {i j : Nat} (h : i ≤ j) : xs.toList.drop i = (xs.extract i j).toList ++ xs.toList.drop j := by
  rw [ext_list]
  obtain ⟨k, rfl⟩ : ∃ k, j = i + k := ⟨j - i, by omega⟩
  rw [List.drop_take, Nat.add_sub_cancel_left, ← List.drop_drop, List.take_append_drop]
theorem LaidH.ak {a b : Array Keyed} {na nb : Nat} {out : Array Keyed} (h : LaidH a b na nb out) {k : Nat} (hk : k ≤ na) : LaidH a b k nb (out ++ (a.extract k na).reverse) := by
  unfold LaidH at h ⊢
  rw [drop_ext a hk, Array.toList_append, Array.toList_reverse]
  refine (h.append_right _).trans ?_
  refine (List.Perm.append_left _ (List.reverse_perm _)).trans ?_
  refine List.perm_append_comm.trans ?_
  rw [List.append_assoc]
theorem LaidH.bk {a b : Array Keyed} {na nb : Nat} {out : Array Keyed} (h : LaidH a b na nb out) {k : Nat} (hk : k ≤ nb) : LaidH a b na k (out ++ (b.extract k nb).reverse) := by
  unfold LaidH at h ⊢
  rw [drop_ext b hk, Array.toList_append, Array.toList_reverse]
  refine (h.append_right _).trans ?_
  refine (List.Perm.append_left _ (List.reverse_perm _)).trans ?_
  rw [List.append_assoc]
  exact (List.perm_append_comm).append_left _
theorem LaidH.all {a b : Array Keyed} {na nb : Nat} {out : Array Keyed} (h : LaidH a b na nb out) :
    (a.extract 0 na ++ b.extract 0 nb ++ out.reverse).toList.Perm (a.toList ++ b.toList) := by
  unfold LaidH at h
  rw [Array.toList_append, Array.toList_append, Array.toList_reverse, ext_list, ext_list, List.drop_zero, List.drop_zero]
  refine (List.Perm.append_left _ ((List.reverse_perm _).trans h)).trans ?_
  rw [List.append_assoc, ← List.append_assoc (b.toList.take nb)]
  refine (List.Perm.append_left _ (List.perm_append_comm.append_right _)).trans ?_
  rw [List.append_assoc, ← List.append_assoc, List.take_append_drop, List.take_append_drop]
theorem LaidH.all' {a b : Array Keyed} {na nb : Nat} {out : Array Keyed} (h : LaidH a b na nb out) :
    (b.extract 0 nb ++ a.extract 0 na ++ out.reverse).toList.Perm (a.toList ++ b.toList) := by
  refine List.Perm.trans ?_ h.all
  rw [Array.toList_append, Array.toList_append, Array.toList_append, Array.toList_append]
  exact List.perm_append_comm.append_right _
structure MidH (a b : Array Keyed) (c0 na nb : Nat) (out : Array Keyed) : Prop where
  laid : LaidH a b na nb out
  ha : 1 ≤ na
  ha2 : na ≤ a.size
  hb : 2 ≤ nb
  hb2 : nb ≤ b.size
  pr : c0 + na + nb ≤ a.size + b.size
theorem wpS_set {st st1 : SortSt} {M : Model} {Q : PUnit → SortSt → Prop} (h : Q ⟨⟩ st1) : wpS M A E s (set st1 : StateT SortSt Sem PUnit) Q st := by
  unfold wpS; rw [StateT.run_set]; exact wpAny_pure ⟨rfl, h⟩
theorem keys_ext {xs : Array Keyed} (h : IntKeys xs) (i j : Nat) : IntKeys (xs.extract i j) := fun p hp => by
  rw [ext_list] at hp
  exact h p (List.mem_of_mem_take (List.mem_of_mem_drop hp))
/-- writing ys at place k on -/
theorem put_at (ys : List Keyed) : ∀ (j k : Nat) (xs : Array Keyed), k + j + ys.length ≤ xs.size →
    ((ys.zipIdx j).foldl (fun a (pj : Keyed × Nat) => a.setIfInBounds (k + pj.2) pj.1) xs).toList = xs.toList.take (k + j) ++ ys ++ xs.toList.drop (k + j + ys.length) := by
  induction ys with
  | nil => intro j k xs _; simp
  | cons y ys ih =>
    intro j k xs h
    simp only [List.length_cons] at h
    rw [List.zipIdx_cons, List.foldl_cons, ih (j + 1) k _ (by rw [Array.size_setIfInBounds]; omega)]
    rw [Array.toList_setIfInBounds]
    have hl : k + j < xs.toList.length := by simp; omega
    rw [show k + (j + 1) = (k + j) + 1 by omega, List.take_add_one, List.getElem?_set_self hl]
    rw [List.take_set_of_le (by omega), List.drop_set_of_lt (by omega)]
    simp only [Option.toList_some, List.append_assoc, List.length_cons, List.cons_append, List.nil_append]
    rw [show k + j + 1 + ys.length = k + j + (ys.length + 1) by omega]
theorem three_perm {l : List Keyed} {i j k : Nat} (hij : i ≤ j) (hjk : j ≤ k) {m : List Keyed} (h : m.Perm ((l.take j).drop i ++ (l.take k).drop j)) : (l.take i ++ m ++ l.drop k).Perm l := by
  have e : l = l.take i ++ ((l.take j).drop i ++ (l.take k).drop j) ++ l.drop k := by
    have e1 : l.take j = l.take i ++ (l.take j).drop i := by
      have := List.take_append_drop i (l.take j)
      rw [List.take_take, Nat.min_eq_left hij] at this; exact this.symm
    have e2 : l.take k = l.take j ++ (l.take k).drop j := by
      have := List.take_append_drop j (l.take k)
      rw [List.take_take, Nat.min_eq_left hjk] at this; exact this.symm
    rw [← List.append_assoc, ← e1, ← e2, List.take_append_drop]
  conv => rhs; rw [e]
  exact (h.append_left _).append_right _
theorem ite_lt2 {c : Prop} [Decidable c] {x y z : Nat} (h1 : x + 1 < z) (h2 : y + 1 < z) : (if c then x else y) + 1 < z := by
  by_cases h : c <;> simp [h, h1, h2]
end
end SB

set_option Elab.async false
set_option maxRecDepth 100000
set_option maxHeartbeats 4000000
namespace SB
open PySem PyProof.Rows

/-- the key of a thing that is sorted -/
abbrev ks (p : Keyed) : Int := numOf p.1
/-- sorted from place i to before place j -/
def Up (xs : Array Keyed) (i j : Nat) : Prop := ∀ k m, i ≤ k → k ≤ m → m < j → K xs k ≤ K xs m
def Dn (xs : Array Keyed) (i j : Nat) : Prop := ∀ k m, i ≤ k → k ≤ m → m < j → K xs m ≤ K xs k
theorem K_at {xs : Array Keyed} {i : Nat} {p : Keyed} (h : xs[i]? = some p) : K xs i = ks p := by unfold K; rw [h]
theorem Up.one (xs : Array Keyed) (i : Nat) : Up xs i (i + 1) := fun k m h1 h2 h3 => by
  obtain rfl : k = m := by omega
  exact Int.le_refl _
theorem Up.snoc {xs : Array Keyed} {i j : Nat} (h : Up xs i j) (hj : K xs (j - 1) ≤ K xs j) : Up xs i (j + 1) := fun k m h1 h2 h3 => by
  by_cases e : m < j
  · exact h k m h1 h2 e
  obtain rfl : m = j := by omega
  by_cases e2 : k = m
  · subst e2; exact Int.le_refl _
  exact Int.le_trans (h k (m - 1) h1 (by omega) (by omega)) hj
theorem Dn.snoc {xs : Array Keyed} {i j : Nat} (h : Dn xs i j) (hj : K xs j ≤ K xs (j - 1)) : Dn xs i (j + 1) := fun k m h1 h2 h3 => by
  by_cases e : m < j
  · exact h k m h1 h2 e
  obtain rfl : m = j := by omega
  by_cases e2 : k = m
  · subst e2; exact Int.le_refl _
  exact Int.le_trans hj (h k (m - 1) h1 (by omega) (by omega))
theorem Up.eqK {xs ys : Array Keyed} {i j : Nat} (h : Up xs i j) (e : ∀ k, i ≤ k → k < j → K ys k = K xs k) : Up ys i j := fun k m h1 h2 h3 => by
  rw [e k h1 (by omega), e m (by omega) h3]; exact h k m h1 h2 h3
theorem Dn.eqK {xs ys : Array Keyed} {i j : Nat} (h : Dn xs i j) (e : ∀ k, i ≤ k → k < j → K ys k = K xs k) : Dn ys i j := fun k m h1 h2 h3 => by
  rw [e k h1 (by omega), e m (by omega) h3]; exact h k m h1 h2 h3
theorem Dn.mir {xs : Array Keyed} {i j : Nat} (h : Dn xs i j) (hj : j ≤ xs.size) : Up (mirror xs i j ((j - i) / 2)) i j := fun k m h1 h2 h3 => by
  rw [K_mirror hj, K_mirror hj, if_pos (by omega), if_pos (by omega)]
  exact h _ _ (by omega) (by omega) (by omega)
/-- below place lo nothing is moved -/
def Low (lo : Nat) (xs ys : Array Keyed) : Prop := ∀ k, k < lo → K ys k = K xs k
theorem Low.refl (lo : Nat) (xs : Array Keyed) : Low lo xs xs := fun _ _ => rfl
theorem Low.trans {lo : Nat} {xs ys zs : Array Keyed} (h : Low lo xs ys) (h2 : Low lo ys zs) : Low lo xs zs := fun k hk => (h2 k hk).trans (h k hk)
theorem Low.mir {lo : Nat} {xs : Array Keyed} {i j : Nat} (hi : lo ≤ i) (hj : j ≤ xs.size) : Low lo xs (mirror xs i j ((j - i) / 2)) := fun k hk => by
  rw [K_mirror hj, if_neg (by omega)]
section
variable {prog : Program} {w : World} {A : Around} {E : Value → Shared → Prop} {s : Shared} {a0 : Array Keyed}
theorem wpS_ltP {x y : Keyed} {st : SortSt} {Q : Option Bool → SortSt → Prop} (hk : kindOf st = oneType') (hx : ∃ n t, x.1 = Value.int n t) (hy : ∃ n t, y.1 = Value.int n t)
    (h : Q (some (decide (ks x < ks y))) st) : wpS (model prog w) A E s (lt' x y) Q st := by
  obtain ⟨n, t, ex⟩ := hx
  obtain ⟨m, u, ey⟩ := hy
  have e1 : ks x = n := by unfold ks; rw [ex]; rfl
  have e2 : ks y = m := by unfold ks; rw [ey]; rfl
  rw [e1, e2] at h
  rw [lt'_eq]
  refine wpS_bind (wpS_get ?_)
  rw [hk, keyLt'_oneType, ex, ey]
  exact wpS_bind (wpS_lift (wpAny_attempt (oneLt_int ⟨rfl, wpS_pure h⟩)))
theorem wpS_ltI {i j : Nat} {st : SortSt} {Q : Option Bool → SortSt → Prop} (hB : SI a0 st) (h0 : IntKeys a0) (hi : i < a0.size) (hj : j < a0.size)
    (h : ∀ b : Bool, (b = true ↔ K (arrOf st) i < K (arrOf st) j) → Q (some b) st) : wpS (model prog w) A E s (ltAt' i j) Q st := by
  obtain ⟨p, e1, k1⟩ := ik_at (hB.keys h0) (i := i) (by rw [hB.size]; exact hi)
  obtain ⟨q, e2, k2⟩ := ik_at (hB.keys h0) (i := j) (by rw [hB.size]; exact hj)
  rw [ltAt'_eq]
  refine wpS_bind (wpS_get ?_)
  refine wpS_bind (wpS_elem e1 (wpS_bind (wpS_elem e2 (wpS_ltP hB.kind k1 k2 (h _ ?_)))))
  rw [K_at e1, K_at e2]; simp
theorem wpS_revI {st : SortSt} {i j : Nat} {Q : Unit → SortSt → Prop} (hB : SI a0 st) (h : ∀ st', SI a0 st' → pendingOf st' = pendingOf st → arrOf st' = mirror (arrOf st) i j ((j - i) / 2) → Q () st') :
    wpS (model prog w) A E s (reverseSlice' i j) Q st := by
  rw [reverseSlice'_eq]; exact wpS_modify (h _ (hB.setArr (mirror_perm _ _ _ _)) rfl rfl)
theorem wpS_downI {st : SortSt} {i j : Nat} {Q : Unit → SortSt → Prop} (hB : SI a0 st) (h : ∀ st', SI a0 st' → pendingOf st' = pendingOf st → arrOf st' = bubble (arrOf st) i (i - j) → Q () st') :
    wpS (model prog w) A E s (moveDown' i j) Q st := by
  rw [moveDown'_eq]; exact wpS_modify (h _ (hB.setArr (bubble_perm _ _ _)) rfl rfl)

/-- a good state; the places below lo are as in ys -/
def GL (a0 : Array Keyed) (pe : Array (Nat × Nat × Nat)) (lo : Nat) (ys : Array Keyed) (st : SortSt) : Prop := G a0 pe st ∧ Low lo ys (arrOf st)
/-- falling so far, the last q + 1 alike -/
structure Fall (xs : Array Keyed) (lo x q : Nat) : Prop where
  dn : Dn xs lo (lo + x)
  q1 : q + 1 ≤ x
  eq : ∀ i, lo + x - (q + 1) ≤ i → i < lo + x → K xs i = K xs (lo + x - 1)
theorem Fall.zero {xs : Array Keyed} {lo x : Nat} (h : Dn xs lo (lo + x)) (h1 : 1 ≤ x) : Fall xs lo x 0 := ⟨h, h1, fun i h2 h3 => by congr 1; omega⟩
theorem Fall.less {xs : Array Keyed} {lo x q : Nat} (h : Fall xs lo x q) (hl : K xs (lo + x) < K xs (lo + x - 1)) : Fall xs lo (x + 1) 0 :=
  .zero (h.dn.snoc (Int.le_of_lt hl)) (by omega)
theorem Fall.mir {xs : Array Keyed} {lo x q : Nat} (h : Fall xs lo x q) (hz : lo + x ≤ xs.size) (k : Nat) :
    K (mirror xs (lo + x - (q + 1)) (lo + x) ((lo + x - (lo + x - (q + 1))) / 2)) k = K xs k := K_mirror_equal hz h.eq k
theorem Fall.like {xs : Array Keyed} {lo x q : Nat} (h : Fall xs lo x q) (h1 : ¬ K xs (lo + x) < K xs (lo + x - 1)) (h2 : ¬ K xs (lo + x - 1) < K xs (lo + x)) : Fall xs lo (x + 1) (q + 1) := by
  have e : K xs (lo + x) = K xs (lo + x - 1) := by omega
  have := h.q1
  refine ⟨h.dn.snoc (by omega), by omega, fun i h3 h4 => ?_⟩
  rw [show lo + (x + 1) - 1 = lo + x by omega]
  by_cases hi : i = lo + x
  · rw [hi]
  · rw [e]; exact h.eq i (by omega) (by omega)

theorem count_s {lo nrem : Nat} {pe : Array (Nat × Nat × Nat)} {ys : Array Keyed} {st : SortSt} {Q : Option Nat → SortSt → Prop} (h0 : IntKeys a0) (hn : lo + nrem ≤ a0.size) (h1 : 1 ≤ nrem) (hB : GL a0 pe lo ys st)
    (h : ∀ m st', GL a0 pe lo ys st' → 1 ≤ m → m ≤ nrem → Up (arrOf st') lo (lo + m) → Q (some m) st') : wpS (model prog w) A E s (countRun' lo nrem) Q st := by
  rw [countRun'_eq]
  refine wpS_bind (wpS_mono (wpS_forRange (I := fun x c st' => c = (none, x) ∧ GL a0 pe lo ys st' ∧ Up (arrOf st') lo (lo + x)) (Q := fun c st' => ∃ m, c = (none, m) ∧ 1 ≤ m ∧ m ≤ nrem ∧ GL a0 pe lo ys st' ∧ Up (arrOf st') lo (lo + m) ∧ (m = nrem ∨ K (arrOf st') (lo + m) < K (arrOf st') (lo + m - 1))) ?s1 ?f1 ⟨rfl, hB, Up.one _ _⟩) ?p1)
  case f1 => rintro c st' ⟨rfl, g, U⟩; exact ⟨_, rfl, by omega, by omega, g, U, .inl (by omega)⟩
  case s1 =>
    rintro x c st' hx1 hx2 ⟨rfl, g, U⟩
    refine wpS_bind (wpS_ltI g.1.1 h0 (by omega) (by omega) fun b hb => ?_)
    cases b
    · exact wpS_pure ⟨rfl, g, U.snoc (Int.not_lt.mp fun z => by cases hb.mpr z)⟩
    · exact wpS_pure ⟨x, rfl, hx1, by omega, g, U, .inr (hb.mp rfl)⟩
  case p1 =>
    rintro c st' ⟨m, rfl, hm1, hm2, g, U, hor⟩
    dsimp only
    by_cases hnn : m = nrem
    · rw [if_pos (by simpa using hnn)]
      exact wpS_pure (h _ _ g hm1 hm2 U)
    rw [if_neg (by simpa using hnn)]
    have hlt := hor.resolve_left hnn
    by_cases hgt : m > 1
    · rw [if_pos hgt]
      refine wpS_bind (wpS_ltI g.1.1 h0 (by omega) (by omega) fun b hb => ?_)
      cases b
      · have hb : ¬ K (arrOf st') lo < K (arrOf st') (lo + m - 1) := fun z => by cases hb.mpr z
        dsimp only
        rw [if_neg (by decide)]
        have hz : lo + m ≤ (arrOf st').size := by rw [g.1.1.size]; omega
        have al : ∀ k, lo ≤ k → k < lo + m → K (arrOf st') k = K (arrOf st') (lo + m - 1) := fun k h1 h2 => by
          have q1 := U lo k (Nat.le_refl _) h1 h2
          have q2 := U k (lo + m - 1) h1 (by omega) (by omega)
          omega
        refine wpS_bind (wpS_revI g.1.1 fun st1 b1 e1 a1 => ?_)
        have eK : ∀ k, K (arrOf st1) k = K (arrOf st') k := fun k => by rw [a1]; exact K_mirror_equal hz al k
        have F : Fall (arrOf st1) lo (m + 1) 0 := by
          refine .zero (Dn.eqK (xs := arrOf st') ?_ fun k _ _ => eK k) (by omega)
          refine Dn.snoc (i := lo) (j := lo + m) (fun k n h1 h2 h3 => ?_) (Int.le_of_lt hlt)
          rw [al k h1 (by omega), al n (by omega) h3]; exact Int.le_refl _
        have g : GL a0 pe lo ys st1 := ⟨⟨b1, e1.trans g.1.2⟩, fun k hk => (eK k).trans (g.2 k hk)⟩
        refine wpS_bind (wpS_lift (wpAny_rule ⟨rfl, ?_⟩))
        refine wpS_bind (wpS_mono (wpS_forRange (I := fun x c st' => ∃ q, c = (none, x, q) ∧ GL a0 pe lo ys st' ∧ Fall (arrOf st') lo x q) (Q := fun c st' => ∃ m q, c = (none, m, q) ∧ m ≤ nrem ∧ GL a0 pe lo ys st' ∧ Fall (arrOf st') lo m q) ?_ ?_ ⟨0, rfl, g, F⟩) ?_)
        · rintro x c st' hx1 hx2 ⟨q, rfl, g, F⟩
          dsimp only
          have hz : lo + x ≤ (arrOf st').size := by rw [g.1.1.size]; omega
          refine wpS_bind (wpS_ltI g.1.1 h0 (by omega) (by omega) fun b hb => ?_)
          cases b
          · have hb : ¬ K (arrOf st') (lo + x) < K (arrOf st') (lo + x - 1) := fun z => by cases hb.mpr z
            refine wpS_bind (wpS_ltI g.1.1 h0 (by omega) (by omega) fun b hb2 => ?_)
            cases b
            · exact wpS_pure ⟨_, rfl, g, F.like hb fun z => by cases hb2.mpr z⟩
            · exact wpS_pure ⟨x, q, rfl, by omega, g, F⟩
          · have hb := hb.mp rfl
            by_cases hq : q > 0
            · simp only [if_pos hq, if_true]
              refine wpS_bind (wpS_revI g.1.1 fun st2 b2 e2 a2 => wpS_pure ⟨0, rfl, ⟨⟨b2, e2.trans g.1.2⟩, fun k hk => ?_⟩, ?_⟩)
              · rw [a2, F.mir hz]; exact g.2 k hk
              · rw [a2]
                exact .zero ((F.less hb).dn.eqK fun k _ _ => F.mir hz k) (by omega)
            · simp only [if_neg hq, if_true]
              exact wpS_pure ⟨0, rfl, g, F.less hb⟩
        · rintro c st' ⟨q, rfl, g, F⟩; exact ⟨_, _, rfl, by omega, g, F⟩
        · rintro c st' ⟨m, q, rfl, hm2, g, F⟩
          dsimp only
          have hm1 := F.q1
          have hz : lo + m ≤ (arrOf st').size := by rw [g.1.1.size]; omega
          by_cases hq : q > 0
          · rw [if_pos hq]
            refine wpS_bind (wpS_revI g.1.1 fun st2 b2 e2 a2 => wpS_bind (wpS_revI b2 fun st3 b3 e3 a3 => ?_))
            have hz2 : lo + m ≤ (arrOf st2).size := by rw [b2.size]; omega
            have D2 : Dn (arrOf st2) lo (lo + m) := by rw [a2]; exact F.dn.eqK fun k _ _ => F.mir hz k
            have L2 : Low lo ys (arrOf st2) := by rw [a2]; exact fun k hk => (F.mir hz k).trans (g.2 k hk)
            have U : Up (arrOf st3) lo (lo + m) := by rw [a3]; exact D2.mir hz2
            have L3 : Low lo ys (arrOf st3) := by rw [a3]; exact L2.trans (Low.mir (Nat.le_refl _) hz2)
            refine wpS_bind (wpS_mono (wpS_forRange (I := fun x c st' => c = (none, x) ∧ GL a0 pe lo ys st' ∧ Up (arrOf st') lo (lo + x)) (Q := fun c st' => ∃ m, c = (none, m) ∧ 1 ≤ m ∧ m ≤ nrem ∧ GL a0 pe lo ys st' ∧ Up (arrOf st') lo (lo + m)) ?_ ?_ ⟨rfl, ⟨⟨b3, e3.trans (e2.trans g.1.2)⟩, L3⟩, U⟩) ?_)
            · rintro x c st' hx1 hx2 ⟨rfl, g, U⟩
              dsimp only
              refine wpS_bind (wpS_ltI g.1.1 h0 (by omega) (by omega) fun b hb => ?_)
              cases b
              · exact wpS_pure ⟨rfl, g, U.snoc (Int.not_lt.mp fun z => by cases hb.mpr z)⟩
              · exact wpS_pure ⟨x, rfl, by omega, by omega, g, U⟩
            · rintro c st' ⟨rfl, g, U⟩; exact ⟨_, rfl, by omega, by omega, g, U⟩
            · rintro c st' ⟨m, rfl, hm1, hm2, g, U⟩
              exact wpS_pure (h _ _ g hm1 hm2 U)
          · rw [if_neg hq]
            refine wpS_bind (wpS_revI g.1.1 fun st3 b3 e3 a3 => ?_)
            have e2 : pendingOf st' = pendingOf st' := rfl
            have U : Up (arrOf st3) lo (lo + m) := by rw [a3]; exact F.dn.mir hz
            have L3 : Low lo ys (arrOf st3) := by rw [a3]; exact g.2.trans (Low.mir (Nat.le_refl _) hz)
            refine wpS_bind (wpS_mono (wpS_forRange (I := fun x c st' => c = (none, x) ∧ GL a0 pe lo ys st' ∧ Up (arrOf st') lo (lo + x)) (Q := fun c st' => ∃ m, c = (none, m) ∧ 1 ≤ m ∧ m ≤ nrem ∧ GL a0 pe lo ys st' ∧ Up (arrOf st') lo (lo + m)) ?_ ?_ ⟨rfl, ⟨⟨b3, e3.trans (e2.trans g.1.2)⟩, L3⟩, U⟩) ?_)
            · rintro x c st' hx1 hx2 ⟨rfl, g, U⟩
              dsimp only
              refine wpS_bind (wpS_ltI g.1.1 h0 (by omega) (by omega) fun b hb => ?_)
              cases b
              · exact wpS_pure ⟨rfl, g, U.snoc (Int.not_lt.mp fun z => by cases hb.mpr z)⟩
              · exact wpS_pure ⟨x, rfl, by omega, by omega, g, U⟩
            · rintro c st' ⟨rfl, g, U⟩; exact ⟨_, rfl, by omega, by omega, g, U⟩
            · rintro c st' ⟨m, rfl, hm1, hm2, g, U⟩
              exact wpS_pure (h _ _ g hm1 hm2 U)
      · exact wpS_pure (h _ _ g hm1 hm2 U)
    · rw [if_neg hgt]
      obtain rfl : m = 1 := by omega
      have F : Fall (arrOf st') lo (1 + 1) 0 := .zero (Dn.snoc (fun k n h1 h2 h3 => by obtain rfl : k = n := by omega
                                                                                       exact Int.le_refl _) (Int.le_of_lt hlt)) (by omega)
      refine wpS_bind (wpS_lift (wpAny_rule ⟨rfl, ?_⟩))
      refine wpS_bind (wpS_mono (wpS_forRange (I := fun x c st' => ∃ q, c = (none, x, q) ∧ GL a0 pe lo ys st' ∧ Fall (arrOf st') lo x q) (Q := fun c st' => ∃ m q, c = (none, m, q) ∧ m ≤ nrem ∧ GL a0 pe lo ys st' ∧ Fall (arrOf st') lo m q) ?_ ?_ ⟨0, rfl, g, F⟩) ?_)
      · rintro x c st' hx1 hx2 ⟨q, rfl, g, F⟩
        dsimp only
        have hz : lo + x ≤ (arrOf st').size := by rw [g.1.1.size]; omega
        refine wpS_bind (wpS_ltI g.1.1 h0 (by omega) (by omega) fun b hb => ?_)
        cases b
        · have hb : ¬ K (arrOf st') (lo + x) < K (arrOf st') (lo + x - 1) := fun z => by cases hb.mpr z
          refine wpS_bind (wpS_ltI g.1.1 h0 (by omega) (by omega) fun b hb2 => ?_)
          cases b
          · exact wpS_pure ⟨_, rfl, g, F.like hb fun z => by cases hb2.mpr z⟩
          · exact wpS_pure ⟨x, q, rfl, by omega, g, F⟩
        · have hb := hb.mp rfl
          by_cases hq : q > 0
          · simp only [if_pos hq, if_true]
            refine wpS_bind (wpS_revI g.1.1 fun st2 b2 e2 a2 => wpS_pure ⟨0, rfl, ⟨⟨b2, e2.trans g.1.2⟩, fun k hk => ?_⟩, ?_⟩)
            · rw [a2, F.mir hz]; exact g.2 k hk
            · rw [a2]
              exact .zero ((F.less hb).dn.eqK fun k _ _ => F.mir hz k) (by omega)
          · simp only [if_neg hq, if_true]
            exact wpS_pure ⟨0, rfl, g, F.less hb⟩
      · rintro c st' ⟨q, rfl, g, F⟩; exact ⟨_, _, rfl, by omega, g, F⟩
      · rintro c st' ⟨m, q, rfl, hm2, g, F⟩
        dsimp only
        have hm1 := F.q1
        have hz : lo + m ≤ (arrOf st').size := by rw [g.1.1.size]; omega
        by_cases hq : q > 0
        · rw [if_pos hq]
          refine wpS_bind (wpS_revI g.1.1 fun st2 b2 e2 a2 => wpS_bind (wpS_revI b2 fun st3 b3 e3 a3 => ?_))
          have hz2 : lo + m ≤ (arrOf st2).size := by rw [b2.size]; omega
          have D2 : Dn (arrOf st2) lo (lo + m) := by rw [a2]; exact F.dn.eqK fun k _ _ => F.mir hz k
          have L2 : Low lo ys (arrOf st2) := by rw [a2]; exact fun k hk => (F.mir hz k).trans (g.2 k hk)
          have U : Up (arrOf st3) lo (lo + m) := by rw [a3]; exact D2.mir hz2
          have L3 : Low lo ys (arrOf st3) := by rw [a3]; exact L2.trans (Low.mir (Nat.le_refl _) hz2)
          refine wpS_bind (wpS_mono (wpS_forRange (I := fun x c st' => c = (none, x) ∧ GL a0 pe lo ys st' ∧ Up (arrOf st') lo (lo + x)) (Q := fun c st' => ∃ m, c = (none, m) ∧ 1 ≤ m ∧ m ≤ nrem ∧ GL a0 pe lo ys st' ∧ Up (arrOf st') lo (lo + m)) ?_ ?_ ⟨rfl, ⟨⟨b3, e3.trans (e2.trans g.1.2)⟩, L3⟩, U⟩) ?_)
          · rintro x c st' hx1 hx2 ⟨rfl, g, U⟩
            dsimp only
            refine wpS_bind (wpS_ltI g.1.1 h0 (by omega) (by omega) fun b hb => ?_)
            cases b
            · exact wpS_pure ⟨rfl, g, U.snoc (Int.not_lt.mp fun z => by cases hb.mpr z)⟩
            · exact wpS_pure ⟨x, rfl, by omega, by omega, g, U⟩
          · rintro c st' ⟨rfl, g, U⟩; exact ⟨_, rfl, by omega, by omega, g, U⟩
          · rintro c st' ⟨m, rfl, hm1, hm2, g, U⟩
            exact wpS_pure (h _ _ g hm1 hm2 U)
        · rw [if_neg hq]
          refine wpS_bind (wpS_revI g.1.1 fun st3 b3 e3 a3 => ?_)
          have e2 : pendingOf st' = pendingOf st' := rfl
          have U : Up (arrOf st3) lo (lo + m) := by rw [a3]; exact F.dn.mir hz
          have L3 : Low lo ys (arrOf st3) := by rw [a3]; exact g.2.trans (Low.mir (Nat.le_refl _) hz)
          refine wpS_bind (wpS_mono (wpS_forRange (I := fun x c st' => c = (none, x) ∧ GL a0 pe lo ys st' ∧ Up (arrOf st') lo (lo + x)) (Q := fun c st' => ∃ m, c = (none, m) ∧ 1 ≤ m ∧ m ≤ nrem ∧ GL a0 pe lo ys st' ∧ Up (arrOf st') lo (lo + m)) ?_ ?_ ⟨rfl, ⟨⟨b3, e3.trans (e2.trans g.1.2)⟩, L3⟩, U⟩) ?_)
          · rintro x c st' hx1 hx2 ⟨rfl, g, U⟩
            dsimp only
            refine wpS_bind (wpS_ltI g.1.1 h0 (by omega) (by omega) fun b hb => ?_)
            cases b
            · exact wpS_pure ⟨rfl, g, U.snoc (Int.not_lt.mp fun z => by cases hb.mpr z)⟩
            · exact wpS_pure ⟨x, rfl, by omega, by omega, g, U⟩
          · rintro c st' ⟨rfl, g, U⟩; exact ⟨_, rfl, by omega, by omega, g, U⟩
          · rintro c st' ⟨m, rfl, hm1, hm2, g, U⟩
            exact wpS_pure (h _ _ g hm1 hm2 U)
theorem bins_s {lo n ok : Nat} {pe : Array (Nat × Nat × Nat)} {ys : Array Keyed} {st : SortSt} {Q : Bool → SortSt → Prop} (h0 : IntKeys a0) (hn : lo + n ≤ a0.size) (hok : ok ≤ n) (hB : GL a0 pe lo ys st) (hU : Up (arrOf st) lo (lo + ok))
    (h : ∀ st', GL a0 pe lo ys st' → Up (arrOf st') lo (lo + n) → Q true st') : wpS (model prog w) A E s (binarySort' lo n ok) Q st := by
  rw [binarySort'_eq]
  refine wpS_bind (wpS_mono (wpS_forRange (I := fun k c st' => c = (none, ()) ∧ GL a0 pe lo ys st' ∧ Up (arrOf st') lo (lo + min k n)) (Q := fun c st' => c = (none, ()) ∧ GL a0 pe lo ys st' ∧ Up (arrOf st') lo (lo + n)) ?_ ?_ ⟨rfl, hB, ?_⟩) ?_)
  · rintro k c st' hak hkn ⟨rfl, g, U⟩
    rw [Nat.min_eq_left (Nat.le_of_lt hkn)] at U
    refine wpS_bind (wpS_mono (wpS_forRange (I := fun x c st'' => ∃ l r, c = (none, l, r) ∧ st'' = st' ∧ l ≤ r ∧ r ≤ k ∧ r - l ≤ k - x ∧ (∀ i, i < l → K (arrOf st') (lo + i) ≤ K (arrOf st') (lo + k)) ∧ (∀ i, r ≤ i → i < k → K (arrOf st') (lo + k) < K (arrOf st') (lo + i)))
      (Q := fun c st'' => ∃ l r, c = (none, l, r) ∧ st'' = st' ∧ l ≤ k ∧ (∀ i, i < l → K (arrOf st') (lo + i) ≤ K (arrOf st') (lo + k)) ∧ (∀ i, l ≤ i → i < k → K (arrOf st') (lo + k) < K (arrOf st') (lo + i))) ?_ ?_ ⟨0, k, rfl, rfl, by omega, Nat.le_refl _, by omega, fun i hi => by omega, fun i h1 h2 => by omega⟩) ?_)
    · rintro x c st'' _ hxk ⟨l, r, rfl, rfl, hlr, hr, hm, f1, f2⟩
      dsimp only
      by_cases hge : l ≥ r
      · rw [if_pos hge]
        obtain rfl : l = r := by omega
        exact wpS_pure ⟨l, l, rfl, rfl, hr, f1, f2⟩
      · rw [if_neg hge]
        refine wpS_bind (wpS_ltI g.1.1 h0 (by omega) (by omega) fun b hb => ?_)
        cases b
        · have hb : ¬ K (arrOf st'') (lo + k) < K (arrOf st'') (lo + (l + r) / 2) := fun z => by cases hb.mpr z
          refine wpS_pure ⟨_, _, rfl, rfl, by omega, hr, by omega, fun i hi => ?_, f2⟩
          exact Int.le_trans (U (lo + i) (lo + (l + r) / 2) (by omega) (by omega) (by omega)) (Int.not_lt.mp hb)
        · refine wpS_pure ⟨_, _, rfl, rfl, by omega, by omega, by omega, f1, fun i h1 h2 => ?_⟩
          exact Int.lt_of_lt_of_le (hb.mp rfl) (U _ _ (by omega) (by omega) (by omega))
    · rintro c st'' ⟨l, r, rfl, rfl, hlr, hr, hm, f1, f2⟩
      obtain rfl : l = r := by omega
      exact ⟨l, l, rfl, rfl, hr, f1, f2⟩
    · rintro c st'' ⟨l, r, rfl, rfl, hl, f1, f2⟩
      refine wpS_bind (wpS_downI g.1.1 fun st2 b2 e2 a2 => wpS_pure ⟨rfl, ⟨⟨b2, e2.trans g.1.2⟩, ?_⟩, ?_⟩)
      · have hz : lo + k < (arrOf st'').size := by rw [g.1.1.size]; omega
        intro j hj
        rw [a2, K_bubble hz (by omega), if_neg (by omega), if_neg (by omega)]
        exact g.2 j hj
      · have hz : lo + k < (arrOf st'').size := by rw [g.1.1.size]; omega
        rw [Nat.min_eq_left (show k + 1 ≤ n by omega), a2]
        intro i j hi hij hj
        have F1 : ∀ i, lo ≤ i → i < lo + l → K (arrOf st'') i ≤ K (arrOf st'') (lo + k) := fun i q1 q2 => by
          have := f1 (i - lo) (by omega); rwa [show lo + (i - lo) = i by omega] at this
        have F2 : ∀ i, lo + l ≤ i → i < lo + k → K (arrOf st'') (lo + k) < K (arrOf st'') i := fun i q1 q2 => by
          have := f2 (i - lo) (by omega) (by omega); rwa [show lo + (i - lo) = i by omega] at this
        rw [K_bubble hz (by omega), K_bubble hz (by omega), show lo + k - (lo + k - (lo + l)) = lo + l by omega]
        repeat' split
        all_goals first
          | (exfalso; omega)
          | exact Int.le_refl _
          | exact F1 _ (by omega) (by omega)
          | exact Int.le_of_lt (F2 _ (by omega) (by omega))
          | exact U _ _ (by omega) (by omega) (by omega)
  · rintro c st' ⟨rfl, g, U⟩
    rw [show min (max (max ok 1) n) n = n by omega] at U
    exact ⟨rfl, g, U⟩
  · intro i j hi hij hj
    by_cases e : ok = 0
    · obtain rfl : i = j := by omega
      exact Int.le_refl _
    · exact hU i j hi hij (by omega)
  · rintro c st' ⟨rfl, g, U⟩; exact wpS_pure (h _ g U)
end
end SB

set_option Elab.async false
set_option maxRecDepth 100000
set_option maxHeartbeats 4000000
namespace SB
open PySem PyProof.Rows
section
variable {prog : Program} {w : World} {A : Around} {E : Value → Shared → Prop} {s : Shared} {a0 : Array Keyed}
/-- before the place that is looked for -/
def Ahead (left : Bool) (key : Keyed) (x : Int) : Prop := if left = true then x < ks key else x ≤ ks key
theorem ahead_le {left : Bool} {key : Keyed} {x y : Int} (h : Ahead left key y) (hxy : x ≤ y) : Ahead left key x := by
  unfold Ahead at h ⊢
  cases left
  · exact Int.le_trans hxy h
  · exact Int.lt_of_le_of_lt hxy h
theorem gallop_s {left : Bool} {key : Keyed} {arr : Array Keyed} {base n hint : Nat} {st : SortSt} {Q : Option Nat → SortSt → Prop} (hk : kindOf st = oneType') (hkey : ∃ i t, key.1 = Value.int i t) (ha : IntKeys arr)
    (hb : base + n ≤ arr.size) (hh : hint < n) (hs : Up arr base (base + n))
    (h : ∀ k, k ≤ n → (∀ i, i < k → Ahead left key (K arr (base + i))) → (∀ i, k ≤ i → i < n → ¬ Ahead left key (K arr (base + i))) → Q (some k) st) : wpS (model prog w) A E s (gallop' left key arr base n hint) Q st := by
  show wpS _ _ _ _ (_ >>= _) _ _
  have bey : ∀ (i : Nat) (Q' : Option Bool → SortSt → Prop), i < n → (∀ b : Bool, (b = true ↔ Ahead left key (K arr (base + i))) → Q' (some b) st) → wpS (model prog w) A E s (do
      let x ← elem' arr (base + i)
      if left then lt' x key else return (← lt' key x).map (!·)) Q' st := by
    intro i Q' hi q
    obtain ⟨p, e1, k1⟩ := ik_at ha (i := base + i) (by omega)
    rw [K_at e1] at q
    refine wpS_bind (wpS_elem e1 ?_)
    cases left
    · rw [if_neg (by decide)]
      refine wpS_bind (wpS_ltP hk hkey k1 (wpS_pure (q _ ?_)))
      simp [Ahead]
    · rw [if_pos rfl]
      refine wpS_ltP hk k1 hkey (q _ ?_)
      simp [Ahead]
  have up : ∀ i j, i ≤ j → j < n → Ahead left key (K arr (base + j)) → Ahead left key (K arr (base + i)) := fun i j h1 h2 h3 => ahead_le h3 (hs _ _ (by omega) (by omega) (by omega))
  generalize hF : (fun i => Ahead left key (K arr (base + i))) = F at *
  have eF : ∀ i, Ahead left key (K arr (base + i)) = F i := fun i => by rw [← hF]
  simp only [eF] at bey up h
  clear eF
  dsimp only
  refine wpS_bind (bey hint _ hh fun b hbh => ?_)
  cases b
  · have hbh : ¬ F hint := fun z => absurd (hbh.mpr z) (by decide)
    dsimp only
    rw [if_neg (by decide)]
    refine wpS_bind (wpS_mono (wpS_forRange (I := fun x c st' => ∃ l r, c = (none, l, r) ∧ l < r ∧ x + 1 ≤ r ∧ l ≤ hint ∧ ¬ F (hint - l) ∧ st = st') (Q := fun c st' => ∃ l r, c = (none, l, r) ∧ l < r ∧ l ≤ hint ∧ ¬ F (hint - l) ∧ (hint + 1 ≤ r ∨ F (hint - r)) ∧ st = st') ?_ ?_ ⟨_, _, rfl, by omega, by omega, by omega, hbh, rfl⟩) ?_)
    · rintro x c st' _ hx ⟨l, r, rfl, hlr, hxr, hl, f, rfl⟩
      dsimp only
      by_cases hge : r ≥ hint + 1
      · rw [if_pos hge]; exact wpS_pure ⟨l, r, rfl, hlr, hl, f, .inl hge, rfl⟩
      · rw [if_neg hge]
        refine wpS_bind (bey _ _ (by omega) fun b hbb => ?_)
        cases b
        · exact wpS_pure ⟨_, _, rfl, by omega, by omega, by omega, fun z => absurd (hbb.mpr z) (by decide), rfl⟩
        · exact wpS_pure ⟨_, _, rfl, hlr, hl, f, .inr (hbb.mp rfl), rfl⟩
    · rintro c st' ⟨l, r, rfl, hlr, hxr, hl, f, rfl⟩; exact ⟨l, r, rfl, hlr, hl, f, .inl (by omega), rfl⟩
    · rintro c st' ⟨l, r, rfl, hlr, hl, f, hor, rfl⟩
      have f1 : ∀ i, i < hint + 1 - min r (hint + 1) → F i := fun i hi => by
        rcases hor with z | z
        · omega
        · exact up i (hint - r) (by omega) (by omega) z
      have f2 : ∀ i, hint - l ≤ i → i < n → ¬ F i := fun i h1 h2 h3 => f (up (hint - l) i h1 h2 h3)
      have hlr : hint + 1 - min r (hint + 1) ≤ hint - l := by omega
      have hrn : hint - l ≤ n := by omega
      dsimp only
      refine wpS_bind (wpS_mono (wpS_forRange (I := fun x c st' => ∃ l r, c = (none, l, r) ∧ l ≤ r ∧ r ≤ n ∧ r - l ≤ n - x ∧ (∀ i, i < l → F i) ∧ (∀ i, r ≤ i → i < n → ¬ F i) ∧ st = st') (Q := fun c st' => ∃ l, c = (none, l, l) ∧ l ≤ n ∧ (∀ i, i < l → F i) ∧ (∀ i, l ≤ i → i < n → ¬ F i) ∧ st = st') ?_ ?_ ⟨_, _, rfl, hlr, hrn, by omega, f1, f2, rfl⟩) ?_)
      · rintro x c st' _ hx ⟨l, r, rfl, hlr, hr, hm, f1, f2, rfl⟩
        dsimp only
        by_cases hge : l ≥ r
        · rw [if_pos hge]
          obtain rfl : l = r := by omega
          exact wpS_pure ⟨l, rfl, hr, f1, f2, rfl⟩
        · rw [if_neg hge]
          refine wpS_bind (bey _ _ (by omega) fun b hbb => ?_)
          cases b
          · refine wpS_pure ⟨_, _, rfl, by omega, by omega, by omega, f1, fun i h1 h2 h3 => ?_, rfl⟩
            have := up (l + (r - l) / 2) i h1 h2 h3
            exact absurd (hbb.mpr this) (by decide)
          · exact wpS_pure ⟨_, _, rfl, by omega, hr, by omega, fun i h1 => up i _ (by omega) (by omega) (hbb.mp rfl), f2, rfl⟩
      · rintro c st' ⟨l, r, rfl, hlr, hr, hm, f1, f2, rfl⟩
        obtain rfl : l = r := by omega
        exact ⟨l, rfl, hr, f1, f2, rfl⟩
      · rintro c st' ⟨l, rfl, hr, f1, f2, rfl⟩
        exact wpS_pure (h _ hr f1 f2)
  · have hbh : F hint := hbh.mp rfl
    dsimp only
    rw [if_pos rfl]
    refine wpS_bind (wpS_mono (wpS_forRange (I := fun x c st' => ∃ l r, c = (none, l, r) ∧ l < r ∧ x + 1 ≤ r ∧ hint + l < n ∧ F (hint + l) ∧ st = st') (Q := fun c st' => ∃ l r, c = (none, l, r) ∧ l < r ∧ hint + l < n ∧ F (hint + l) ∧ (n - hint ≤ r ∨ ¬ F (hint + r)) ∧ st = st') ?_ ?_ ⟨_, _, rfl, by omega, by omega, by omega, hbh, rfl⟩) ?_)
    · rintro x c st' _ hx ⟨l, r, rfl, hlr, hxr, hl, f, rfl⟩
      dsimp only
      by_cases hge : r ≥ n - hint
      · rw [if_pos hge]; exact wpS_pure ⟨l, r, rfl, hlr, hl, f, .inl hge, rfl⟩
      · rw [if_neg hge]
        refine wpS_bind (bey _ _ (by omega) fun b hbb => ?_)
        cases b
        · exact wpS_pure ⟨_, _, rfl, hlr, hl, f, .inr (fun z => absurd (hbb.mpr z) (by decide)), rfl⟩
        · exact wpS_pure ⟨_, _, rfl, by omega, by omega, by omega, hbb.mp rfl, rfl⟩
    · rintro c st' ⟨l, r, rfl, hlr, hxr, hl, f, rfl⟩; exact ⟨l, r, rfl, hlr, hl, f, .inl (by omega), rfl⟩
    · rintro c st' ⟨l, r, rfl, hlr, hl, f, hor, rfl⟩
      have f1 : ∀ i, i < hint + l + 1 → F i := fun i hi => up i (hint + l) (by omega) hl f
      have f2 : ∀ i, hint + min r (n - hint) ≤ i → i < n → ¬ F i := fun i h1 h2 h3 => by
        rcases hor with z | z
        · omega
        · exact z (up (hint + r) i (by omega) h2 h3)
      have hlr : hint + l + 1 ≤ hint + min r (n - hint) := by omega
      have hrn : hint + min r (n - hint) ≤ n := by omega
      dsimp only
      refine wpS_bind (wpS_mono (wpS_forRange (I := fun x c st' => ∃ l r, c = (none, l, r) ∧ l ≤ r ∧ r ≤ n ∧ r - l ≤ n - x ∧ (∀ i, i < l → F i) ∧ (∀ i, r ≤ i → i < n → ¬ F i) ∧ st = st') (Q := fun c st' => ∃ l, c = (none, l, l) ∧ l ≤ n ∧ (∀ i, i < l → F i) ∧ (∀ i, l ≤ i → i < n → ¬ F i) ∧ st = st') ?_ ?_ ⟨_, _, rfl, hlr, hrn, by omega, f1, f2, rfl⟩) ?_)
      · rintro x c st' _ hx ⟨l, r, rfl, hlr, hr, hm, f1, f2, rfl⟩
        dsimp only
        by_cases hge : l ≥ r
        · rw [if_pos hge]
          obtain rfl : l = r := by omega
          exact wpS_pure ⟨l, rfl, hr, f1, f2, rfl⟩
        · rw [if_neg hge]
          refine wpS_bind (bey _ _ (by omega) fun b hbb => ?_)
          cases b
          · refine wpS_pure ⟨_, _, rfl, by omega, by omega, by omega, f1, fun i h1 h2 h3 => ?_, rfl⟩
            have := up (l + (r - l) / 2) i h1 h2 h3
            exact absurd (hbb.mpr this) (by decide)
          · exact wpS_pure ⟨_, _, rfl, by omega, hr, by omega, fun i h1 => up i _ (by omega) (by omega) (hbb.mp rfl), f2, rfl⟩
      · rintro c st' ⟨l, r, rfl, hlr, hr, hm, f1, f2, rfl⟩
        obtain rfl : l = r := by omega
        exact ⟨l, rfl, hr, f1, f2, rfl⟩
      · rintro c st' ⟨l, rfl, hr, f1, f2, rfl⟩
        exact wpS_pure (h _ hr f1 f2)

abbrev Srt (l : List Keyed) : Prop := l.Pairwise fun p q => ks p ≤ ks q
theorem ext_mem {xs : Array Keyed} {i j : Nat} {p : Keyed} (h : p ∈ (xs.extract i j).toList) : ∃ k, i ≤ k ∧ k < j ∧ k < xs.size ∧ K xs k = ks p := by
  rw [ext_list] at h
  obtain ⟨k, hk, e⟩ := List.getElem_of_mem h
  have hk' := hk
  rw [List.length_drop, List.length_take, Array.length_toList] at hk'
  refine ⟨i + k, by omega, by omega, by omega, ?_⟩
  rw [List.getElem_drop, List.getElem_take] at e
  exact K_at (by rw [← e]; simp)
theorem ext_srt {xs : Array Keyed} {i j : Nat} (h : Up xs i j) (hj : j ≤ xs.size) : Srt (xs.extract i j).toList := by
  rw [ext_list, Srt, List.pairwise_iff_getElem]
  intro k m hk hm hkm
  rw [List.length_drop, List.length_take, Array.length_toList] at hk hm
  rw [List.getElem_drop, List.getElem_take, List.getElem_drop, List.getElem_take]
  have q := h (i + k) (i + m) (by omega) (by omega) (by omega)
  rw [K_eq (by omega), K_eq (by omega)] at q
  simpa using q
/-- laid out in order, and not above what is left -/
structure Od (a b : Array Keyed) (ia ib : Nat) (out : Array Keyed) : Prop where
  laid : Laid a b ia ib out
  srt : Srt out.toList
  la : ∀ p, p ∈ out.toList → ∀ j, ia ≤ j → j < a.size → ks p ≤ K a j
  lb : ∀ p, p ∈ out.toList → ∀ j, ib ≤ j → j < b.size → ks p ≤ K b j
/-- both are sorted; the first of b comes first, the last of a last -/
structure Fit (a b : Array Keyed) : Prop where
  ua : Up a 0 a.size
  ub : Up b 0 b.size
  fb : ∀ j, j < a.size → K b 0 ≤ K a j
  la : ∀ j, j < b.size → K b j ≤ K a (a.size - 1)
variable {a b : Array Keyed} {ia ib : Nat} {out : Array Keyed}
theorem Od.push {xs : Array Keyed} {p : Keyed} {k : Nat} (hs : Srt out.toList) (hl : ∀ p, p ∈ out.toList → ∀ j, k ≤ j → j < xs.size → ks p ≤ K xs j) (hp : xs[k]? = some p) : Srt (out.push p).toList := by
  rw [Array.toList_push, Srt, List.pairwise_append]
  refine ⟨hs, List.pairwise_singleton _ _, fun q hq r hr => ?_⟩
  obtain rfl := List.mem_singleton.mp hr
  rw [← K_at hp]
  exact hl q hq k (Nat.le_refl _) (by have := Array.getElem?_eq_some_iff.mp hp; exact this.1)
theorem lt_of_at {xs : Array Keyed} {p : Keyed} {k : Nat} (hp : xs[k]? = some p) : k < xs.size := (Array.getElem?_eq_some_iff.mp hp).1
theorem Od.pb (F : Fit a b) (h : Od a b ia ib out) {p : Keyed} (hp : b[ib]? = some p) (hx : ∀ j, ia ≤ j → j < a.size → ks p ≤ K a j) : Od a b ia (ib + 1) (out.push p) := by
  refine ⟨h.laid.b hp, Od.push h.srt h.lb hp, fun q hq j h1 h2 => ?_, fun q hq j h1 h2 => ?_⟩
  · rw [Array.toList_push, List.mem_append, List.mem_singleton] at hq
    rcases hq with hq | rfl
    · exact h.la q hq j h1 h2
    · exact hx j h1 h2
  · rw [Array.toList_push, List.mem_append, List.mem_singleton] at hq
    rcases hq with hq | rfl
    · exact h.lb q hq j (by omega) h2
    · rw [← K_at hp]; exact F.ub _ _ (by omega) (by omega) h2
theorem Od.pa (F : Fit a b) (h : Od a b ia ib out) {p : Keyed} (hp : a[ia]? = some p) (hx : ∀ j, ib ≤ j → j < b.size → ks p ≤ K b j) : Od a b (ia + 1) ib (out.push p) := by
  refine ⟨h.laid.a hp, Od.push h.srt h.la hp, fun q hq j h1 h2 => ?_, fun q hq j h1 h2 => ?_⟩
  · rw [Array.toList_push, List.mem_append, List.mem_singleton] at hq
    rcases hq with hq | rfl
    · exact h.la q hq j (by omega) h2
    · rw [← K_at hp]; exact F.ua _ _ (by omega) (by omega) h2
  · rw [Array.toList_push, List.mem_append, List.mem_singleton] at hq
    rcases hq with hq | rfl
    · exact h.lb q hq j h1 h2
    · exact hx j h1 h2
theorem Od.app {xs : Array Keyed} {k m : Nat} (hs : Srt out.toList) (hl : ∀ p, p ∈ out.toList → ∀ j, k ≤ j → j < xs.size → ks p ≤ K xs j) (hu : Up xs 0 xs.size) (hm : m ≤ xs.size) : Srt (out ++ xs.extract k m).toList := by
  rw [Array.toList_append, Srt, List.pairwise_append]
  refine ⟨hs, ext_srt (fun i j h1 h2 h3 => hu i j (by omega) h2 (by omega)) hm, fun q hq r hr => ?_⟩
  obtain ⟨i, h1, h2, h3, e⟩ := ext_mem hr
  rw [← e]
  exact hl q hq i h1 h3
theorem Od.ak (F : Fit a b) (h : Od a b ia ib out) {k : Nat} (hk : ia + k ≤ a.size) (hx : ∀ i, ia ≤ i → i < ia + k → ∀ j, ib ≤ j → j < b.size → K a i ≤ K b j) : Od a b (ia + k) ib (out ++ a.extract ia (ia + k)) := by
  refine ⟨h.laid.ak k, Od.app h.srt h.la F.ua hk, fun q hq j h1 h2 => ?_, fun q hq j h1 h2 => ?_⟩
  · rw [Array.toList_append, List.mem_append] at hq
    rcases hq with hq | hq
    · exact h.la q hq j (by omega) h2
    · obtain ⟨i, i1, i2, i3, e⟩ := ext_mem hq
      rw [← e]; exact F.ua _ _ (by omega) (by omega) h2
  · rw [Array.toList_append, List.mem_append] at hq
    rcases hq with hq | hq
    · exact h.lb q hq j h1 h2
    · obtain ⟨i, i1, i2, i3, e⟩ := ext_mem hq
      rw [← e]; exact hx i i1 i2 j h1 h2
theorem Od.bk (F : Fit a b) (h : Od a b ia ib out) {k : Nat} (hk : ib + k ≤ b.size) (hx : ∀ j, ib ≤ j → j < ib + k → ∀ i, ia ≤ i → i < a.size → K b j ≤ K a i) : Od a b ia (ib + k) (out ++ b.extract ib (ib + k)) := by
  refine ⟨h.laid.bk k, Od.app h.srt h.lb F.ub hk, fun q hq j h1 h2 => ?_, fun q hq j h1 h2 => ?_⟩
  · rw [Array.toList_append, List.mem_append] at hq
    rcases hq with hq | hq
    · exact h.la q hq j h1 h2
    · obtain ⟨i, i1, i2, i3, e⟩ := ext_mem hq
      rw [← e]; exact hx i i1 i2 j h1 h2
  · rw [Array.toList_append, List.mem_append] at hq
    rcases hq with hq | hq
    · exact h.lb q hq j (by omega) h2
    · obtain ⟨i, i1, i2, i3, e⟩ := ext_mem hq
      rw [← e]; exact F.ub _ _ (by omega) (by omega) h2
/-- what a merge gives -/
def Mg (a b : Array Keyed) (r : Array Keyed) : Prop := r.toList.Perm (a.toList ++ b.toList) ∧ Srt r.toList
theorem Od.fab (F : Fit a b) (h : Od a b ia ib out) (ha : ia ≤ a.size) (hb : ib ≤ b.size) (hx : ∀ i, ia ≤ i → i < a.size → ∀ j, ib ≤ j → j < b.size → K a i ≤ K b j) : Mg a b (out ++ a.extract ia a.size ++ b.extract ib b.size) := by
  refine ⟨h.laid.all ha hb, ?_⟩
  obtain ⟨j, hj⟩ : ∃ j, a.size = ia + j := ⟨a.size - ia, by omega⟩
  have q := (h.ak F (k := j) (by omega) (fun i h1 h2 => hx i h1 (by omega)))
  rw [← hj] at q
  exact Od.app q.srt q.lb F.ub (Nat.le_refl _)
theorem Od.fb (F : Fit a b) (h : Od a b ia ib out) (ha : ia ≤ a.size) (e : ib = b.size) : Mg a b (out ++ a.extract ia a.size ++ b.extract ib b.size) := h.fab F ha (by omega) fun i _ _ j h1 h2 => by omega
theorem Od.fa (F : Fit a b) (h : Od a b ia ib out) (hb : ib ≤ b.size) (e : ia = a.size) : Mg a b (out ++ a.extract ia a.size ++ b.extract ib b.size) := h.fab F (by omega) hb fun i h1 h2 j _ _ => by omega
theorem Od.fl (F : Fit a b) (h : Od a b ia ib out) (hb : ib ≤ b.size) (e : ia + 1 = a.size) : Mg a b (out ++ b.extract ib b.size ++ a.extract ia a.size) := by
  refine ⟨h.laid.all' (by omega) hb, ?_⟩
  obtain ⟨j, hj⟩ : ∃ j, b.size = ib + j := ⟨b.size - ib, by omega⟩
  have q := (h.bk F (k := j) (by omega) (fun i h1 h2 k h3 h4 => by obtain rfl : k = a.size - 1 := by omega
                                                                   exact F.la i (by omega)))
  rw [← hj] at q
  exact Od.app q.srt q.la F.ua (Nat.le_refl _)
theorem gA (F : Fit a b) {p : Keyed} {k : Nat} (hp : b[ib]? = some p) (g : ∀ i, i < k → Ahead false p (K a (ia + i))) : ∀ i, ia ≤ i → i < ia + k → ∀ j, ib ≤ j → j < b.size → K a i ≤ K b j := fun i h1 h2 j h3 h4 => by
  have q : K a (ia + (i - ia)) ≤ ks p := g (i - ia) (by omega)
  rw [show ia + (i - ia) = i by omega, ← K_at hp] at q
  exact Int.le_trans q (F.ub _ _ (by omega) h3 h4)
theorem gB {p q : Keyed} {k : Nat} (hp : b[ib]? = some p) (hq : b[ib]? = some q) (g : ∀ i, k ≤ i → i < a.size - ia → ¬ Ahead false p (K a (ia + i))) : ∀ j, ia + k ≤ j → j < a.size → ks q ≤ K a j := fun j h1 h2 => by
  obtain rfl : p = q := by rw [hp] at hq; exact Option.some.inj hq
  have z : ¬ K a (ia + (j - ia)) ≤ ks p := g (j - ia) (by omega) (by omega)
  rw [show ia + (j - ia) = j by omega] at z
  omega
theorem gA2 (F : Fit a b) {p : Keyed} {k : Nat} (hp : a[ia]? = some p) (g : ∀ i, i < k → Ahead true p (K b (ib + i))) : ∀ j, ib ≤ j → j < ib + k → ∀ i, ia ≤ i → i < a.size → K b j ≤ K a i := fun i h1 h2 j h3 h4 => by
  have q : K b (ib + (i - ib)) < ks p := g (i - ib) (by omega)
  rw [show ib + (i - ib) = i by omega, ← K_at hp] at q
  exact Int.le_trans (Int.le_of_lt q) (F.ua _ _ (by omega) h3 h4)
theorem gB2 {p q : Keyed} {k : Nat} (hp : a[ia]? = some p) (hq : a[ia]? = some q) (g : ∀ i, k ≤ i → i < b.size - ib → ¬ Ahead true p (K b (ib + i))) : ∀ j, ib + k ≤ j → j < b.size → ks q ≤ K b j := fun j h1 h2 => by
  obtain rfl : p = q := by rw [hp] at hq; exact Option.some.inj hq
  have z : ¬ K b (ib + (j - ib)) < ks p := g (j - ib) (by omega) (by omega)
  rw [show ib + (j - ib) = j by omega] at z
  omega
end
end SB

set_option Elab.async false
set_option maxRecDepth 100000
set_option maxHeartbeats 4000000
namespace SB
open PySem PyProof.Rows
section
variable {prog : Program} {w : World} {A : Around} {E : Value → Shared → Prop} {s : Shared} {a0 : Array Keyed}
variable {a b : Array Keyed} {ia ib na nb : Nat} {out : Array Keyed}
theorem ltA (F : Fit a b) {p1 p2 p3 : Keyed} (h1 : b[ib]? = some p1) (h2 : a[ia]? = some p2) (h3 : b[ib]? = some p3) (h : ks p1 < ks p2) : ∀ j, ia ≤ j → j < a.size → ks p3 ≤ K a j := fun j q1 q2 => by
  obtain rfl : p1 = p3 := by rw [h1] at h3; exact Option.some.inj h3
  rw [← K_at h2] at h
  exact Int.le_trans (Int.le_of_lt h) (F.ua _ _ (by omega) q1 q2)
theorem ltB (F : Fit a b) {p1 p2 p3 : Keyed} (h1 : b[ib]? = some p1) (h2 : a[ia]? = some p2) (h3 : a[ia]? = some p3) (h : ¬ ks p1 < ks p2) : ∀ j, ib ≤ j → j < b.size → ks p3 ≤ K b j := fun j q1 q2 => by
  obtain rfl : p2 = p3 := by rw [h2] at h3; exact Option.some.inj h3
  rw [← K_at h1] at h
  exact Int.le_trans (Int.not_lt.mp h) (F.ub _ _ (by omega) q1 q2)
theorem Up.sub {xs : Array Keyed} {i n : Nat} (h : Up xs 0 xs.size) (hn : i + n ≤ xs.size) : Up xs i (i + n) := fun k m _ h2 h3 => h k m (by omega) h2 (by omega)
structure MidO (a b : Array Keyed) (c0 ia ib : Nat) (out : Array Keyed) : Prop where
  laid : Od a b ia ib out
  ha : ia + 1 < a.size
  hb : ib < b.size
  pr : c0 ≤ ia + ib
def MRetO (a b : Array Keyed) (GG : SortSt → Prop) {β : Type} (c : Option (Array Keyed) × β) (st' : SortSt) : Prop := ∃ r y, c = (some r, y) ∧ Mg a b r ∧ GG st'
/-- laid out from behind in order, and not below what is left -/
structure OdH (a b : Array Keyed) (na nb : Nat) (out : Array Keyed) : Prop where
  laid : LaidH a b na nb out
  srt : out.toList.Pairwise fun p q => ks q ≤ ks p
  la : ∀ p, p ∈ out.toList → ∀ j, j < na → K a j ≤ ks p
  lb : ∀ p, p ∈ out.toList → ∀ j, j < nb → K b j ≤ ks p
theorem OdH.pb (F : Fit a b) (h : OdH a b na nb out) (h1 : 1 ≤ nb) {p : Keyed} (hp : b[nb - 1]? = some p) (hx : ∀ j, j < na → K a j ≤ ks p) : OdH a b na (nb - 1) (out.push p) := by
  have hz := lt_of_at hp
  refine ⟨h.laid.b h1 hp, ?_, fun q hq j h2 => ?_, fun q hq j h2 => ?_⟩
  · rw [Array.toList_push, List.pairwise_append]
    refine ⟨h.srt, List.pairwise_singleton _ _, fun q hq r hr => ?_⟩
    obtain rfl := List.mem_singleton.mp hr
    rw [← K_at hp]; exact h.lb q hq _ (by omega)
  · rw [Array.toList_push, List.mem_append, List.mem_singleton] at hq
    rcases hq with hq | rfl
    · exact h.la q hq j h2
    · exact hx j h2
  · rw [Array.toList_push, List.mem_append, List.mem_singleton] at hq
    rcases hq with hq | rfl
    · exact h.lb q hq j (by omega)
    · rw [← K_at hp]; exact F.ub _ _ (by omega) (by omega) (by omega)
theorem OdH.pa (F : Fit a b) (h : OdH a b na nb out) (h1 : 1 ≤ na) {p : Keyed} (hp : a[na - 1]? = some p) (hx : ∀ j, j < nb → K b j ≤ ks p) : OdH a b (na - 1) nb (out.push p) := by
  have hz := lt_of_at hp
  refine ⟨h.laid.a h1 hp, ?_, fun q hq j h2 => ?_, fun q hq j h2 => ?_⟩
  · rw [Array.toList_push, List.pairwise_append]
    refine ⟨h.srt, List.pairwise_singleton _ _, fun q hq r hr => ?_⟩
    obtain rfl := List.mem_singleton.mp hr
    rw [← K_at hp]; exact h.la q hq _ (by omega)
  · rw [Array.toList_push, List.mem_append, List.mem_singleton] at hq
    rcases hq with hq | rfl
    · exact h.la q hq j (by omega)
    · rw [← K_at hp]; exact F.ua _ _ (by omega) (by omega) (by omega)
  · rw [Array.toList_push, List.mem_append, List.mem_singleton] at hq
    rcases hq with hq | rfl
    · exact h.lb q hq j h2
    · exact hx j h2
theorem rev_app {xs : Array Keyed} {k m : Nat} (hs : out.toList.Pairwise fun p q => ks q ≤ ks p) (hl : ∀ p, p ∈ out.toList → ∀ j, j < m → K xs j ≤ ks p) (hu : Up xs 0 xs.size) (hm : m ≤ xs.size) : (out ++ (xs.extract k m).reverse).toList.Pairwise fun p q => ks q ≤ ks p := by
  rw [Array.toList_append, Array.toList_reverse, List.pairwise_append]
  refine ⟨hs, List.pairwise_reverse.mpr (ext_srt (fun i j h1 h2 h3 => hu i j (by omega) h2 (by omega)) hm), fun q hq r hr => ?_⟩
  obtain ⟨i, h1, h2, h3, e⟩ := ext_mem (List.mem_reverse.mp hr)
  rw [← e]
  exact hl q hq i h2
theorem OdH.ak (F : Fit a b) (h : OdH a b na nb out) {k : Nat} (hk : k ≤ na) (hn : na ≤ a.size) (hx : ∀ i, k ≤ i → i < na → ∀ j, j < nb → K b j ≤ K a i) : OdH a b k nb (out ++ (a.extract k na).reverse) := by
  refine ⟨h.laid.ak hk, rev_app h.srt h.la F.ua hn, fun q hq j h2 => ?_, fun q hq j h2 => ?_⟩
  · rw [Array.toList_append, Array.toList_reverse, List.mem_append, List.mem_reverse] at hq
    rcases hq with hq | hq
    · exact h.la q hq j (by omega)
    · obtain ⟨i, i1, i2, i3, e⟩ := ext_mem hq
      rw [← e]; exact F.ua _ _ (by omega) (by omega) i3
  · rw [Array.toList_append, Array.toList_reverse, List.mem_append, List.mem_reverse] at hq
    rcases hq with hq | hq
    · exact h.lb q hq j h2
    · obtain ⟨i, i1, i2, i3, e⟩ := ext_mem hq
      rw [← e]; exact hx i i1 i2 j h2
theorem OdH.bk (F : Fit a b) (h : OdH a b na nb out) {k : Nat} (hk : k ≤ nb) (hn : nb ≤ b.size) (hx : ∀ j, k ≤ j → j < nb → ∀ i, i < na → K a i ≤ K b j) : OdH a b na k (out ++ (b.extract k nb).reverse) := by
  refine ⟨h.laid.bk hk, rev_app h.srt h.lb F.ub hn, fun q hq j h2 => ?_, fun q hq j h2 => ?_⟩
  · rw [Array.toList_append, Array.toList_reverse, List.mem_append, List.mem_reverse] at hq
    rcases hq with hq | hq
    · exact h.la q hq j h2
    · obtain ⟨i, i1, i2, i3, e⟩ := ext_mem hq
      rw [← e]; exact hx i i1 i2 j h2
  · rw [Array.toList_append, Array.toList_reverse, List.mem_append, List.mem_reverse] at hq
    rcases hq with hq | hq
    · exact h.lb q hq j (by omega)
    · obtain ⟨i, i1, i2, i3, e⟩ := ext_mem hq
      rw [← e]; exact F.ub _ _ (by omega) (by omega) i3
theorem srt3 {x y z : List Keyed} (hx : Srt x) (hy : Srt y) (hz : Srt z) (h1 : ∀ p, p ∈ x → ∀ q, q ∈ y → ks p ≤ ks q) (h2 : ∀ p, p ∈ x → ∀ q, q ∈ z → ks p ≤ ks q) (h3 : ∀ p, p ∈ y → ∀ q, q ∈ z → ks p ≤ ks q) : Srt (x ++ y ++ z) := by
  rw [Srt, List.pairwise_append, List.pairwise_append]
  refine ⟨⟨hx, hy, h1⟩, hz, fun p hp q hq => ?_⟩
  rcases List.mem_append.mp hp with hp | hp
  · exact h2 p hp q hq
  · exact h3 p hp q hq
theorem OdH.fab (F : Fit a b) (h : OdH a b na nb out) (ha : na ≤ a.size) (hb : nb ≤ b.size) (hx : ∀ i, i < na → ∀ j, j < nb → K a i ≤ K b j) : Mg a b (a.extract 0 na ++ b.extract 0 nb ++ out.reverse) := by
  refine ⟨h.laid.all, ?_⟩
  rw [Array.toList_append, Array.toList_append, Array.toList_reverse]
  refine srt3 (ext_srt (fun i j h1 h2 h3 => F.ua i j (by omega) h2 (by omega)) ha) (ext_srt (fun i j h1 h2 h3 => F.ub i j (by omega) h2 (by omega)) hb) (List.pairwise_reverse.mpr h.srt) (fun p hp q hq => ?_) (fun p hp q hq => ?_) (fun p hp q hq => ?_)
  · obtain ⟨i, _, i2, _, e⟩ := ext_mem hp
    obtain ⟨j, _, j2, _, e2⟩ := ext_mem hq
    rw [← e, ← e2]; exact hx i i2 j j2
  · obtain ⟨i, _, i2, _, e⟩ := ext_mem hp
    rw [← e]; exact h.la q (List.mem_reverse.mp hq) i i2
  · obtain ⟨i, _, i2, _, e⟩ := ext_mem hp
    rw [← e]; exact h.lb q (List.mem_reverse.mp hq) i i2
theorem OdH.fz (F : Fit a b) (h : OdH a b na nb out) (hb : nb ≤ b.size) (e : na = 0) : Mg a b (a.extract 0 na ++ b.extract 0 nb ++ out.reverse) := h.fab F (by omega) hb fun i hi => by omega
theorem OdH.fn (F : Fit a b) (h : OdH a b na nb out) (ha : na ≤ a.size) (e : nb = 0) : Mg a b (a.extract 0 na ++ b.extract 0 nb ++ out.reverse) := h.fab F ha (by omega) fun i _ j hj => by omega
theorem OdH.fl (F : Fit a b) (h : OdH a b na nb out) (ha : na ≤ a.size) (hb : nb ≤ b.size) (e : nb = 1) : Mg a b (b.extract 0 nb ++ a.extract 0 na ++ out.reverse) := by
  refine ⟨h.laid.all', ?_⟩
  rw [Array.toList_append, Array.toList_append, Array.toList_reverse]
  refine srt3 (ext_srt (fun i j h1 h2 h3 => F.ub i j (by omega) h2 (by omega)) hb) (ext_srt (fun i j h1 h2 h3 => F.ua i j (by omega) h2 (by omega)) ha) (List.pairwise_reverse.mpr h.srt) (fun p hp q hq => ?_) (fun p hp q hq => ?_) (fun p hp q hq => ?_)
  · obtain ⟨i, _, i2, _, e1⟩ := ext_mem hp
    obtain ⟨j, _, j2, _, e2⟩ := ext_mem hq
    obtain rfl : i = 0 := by omega
    rw [← e1, ← e2]; exact F.fb j (by omega)
  · obtain ⟨i, _, i2, _, e⟩ := ext_mem hp
    rw [← e]; exact h.lb q (List.mem_reverse.mp hq) i i2
  · obtain ⟨i, _, i2, _, e⟩ := ext_mem hp
    rw [← e]; exact h.la q (List.mem_reverse.mp hq) i i2
theorem hA1 (F : Fit a b) {p : Keyed} {k : Nat} (hp : b[nb - 1]? = some p) (hb : nb ≤ b.size) (g : ∀ i, k ≤ i → i < na → ¬ Ahead false p (K a (0 + i))) : ∀ i, k ≤ i → i < na → ∀ j, j < nb → K b j ≤ K a i := fun i h1 h2 j h3 => by
  have z : ¬ K a (0 + i) ≤ ks p := g i h1 h2
  rw [Nat.zero_add, ← K_at hp] at z
  have := F.ub j (nb - 1) (by omega) (by omega) (by omega)
  omega
theorem hB1 {p q : Keyed} {k : Nat} (hp : b[nb - 1]? = some p) (hq : b[nb - 1]? = some q) (g : ∀ i, i < k → Ahead false p (K a (0 + i))) : ∀ j, j < k → K a j ≤ ks q := fun j h1 => by
  obtain rfl : p = q := by rw [hp] at hq; exact Option.some.inj hq
  have z : K a (0 + j) ≤ ks p := g j h1
  rwa [Nat.zero_add] at z
theorem hA2 (F : Fit a b) {p : Keyed} {k : Nat} (hp : a[na - 1]? = some p) (ha : na ≤ a.size) (g : ∀ i, k ≤ i → i < nb → ¬ Ahead true p (K b (0 + i))) : ∀ j, k ≤ j → j < nb → ∀ i, i < na → K a i ≤ K b j := fun j h1 h2 i h3 => by
  have z : ¬ K b (0 + j) < ks p := g j h1 h2
  rw [Nat.zero_add, ← K_at hp] at z
  have := F.ua i (na - 1) (by omega) (by omega) (by omega)
  omega
theorem hB2 {p q : Keyed} {k : Nat} (hp : a[na - 1]? = some p) (hq : a[na - 1]? = some q) (g : ∀ i, i < k → Ahead true p (K b (0 + i))) : ∀ j, j < k → K b j ≤ ks q := fun j h1 => by
  obtain rfl : p = q := by rw [hp] at hq; exact Option.some.inj hq
  have z : K b (0 + j) < ks p := g j h1
  rw [Nat.zero_add] at z
  exact Int.le_of_lt z
theorem ltAH (F : Fit a b) {p1 p2 p3 : Keyed} (h1 : b[nb - 1]? = some p1) (h2 : a[na - 1]? = some p2) (h3 : a[na - 1]? = some p3) (hn : nb ≤ b.size) (h : ks p1 < ks p2) : ∀ j, j < nb → K b j ≤ ks p3 := fun j q1 => by
  obtain rfl : p2 = p3 := by rw [h2] at h3; exact Option.some.inj h3
  rw [← K_at h1] at h
  exact Int.le_trans (F.ub _ _ (by omega) (by omega) (by omega)) (Int.le_of_lt h)
theorem ltBH (F : Fit a b) {p1 p2 p3 : Keyed} (h1 : b[nb - 1]? = some p1) (h2 : a[na - 1]? = some p2) (h3 : b[nb - 1]? = some p3) (hn : na ≤ a.size) (h : ¬ ks p1 < ks p2) : ∀ j, j < na → K a j ≤ ks p3 := fun j q1 => by
  obtain rfl : p1 = p3 := by rw [h1] at h3; exact Option.some.inj h3
  rw [← K_at h2] at h
  exact Int.le_trans (F.ua _ _ (by omega) (by omega) (by omega)) (Int.not_lt.mp h)
structure MidHO (a b : Array Keyed) (c0 na nb : Nat) (out : Array Keyed) : Prop where
  laid : OdH a b na nb out
  ha : 1 ≤ na
  ha2 : na ≤ a.size
  hb : 2 ≤ nb
  hb2 : nb ≤ b.size
  pr : c0 + na + nb ≤ a.size + b.size
theorem mergeLo_s {a b : Array Keyed} {pe : Array (Nat × Nat × Nat)} {xs : Array Keyed} {st : SortSt} {Q : Array Keyed → SortSt → Prop} (hB : GX a0 pe xs st) (ha : IntKeys a) (hb : IntKeys b) (ha1 : 1 ≤ a.size) (hb1 : 1 ≤ b.size)
    (F : Fit a b) (h : ∀ out st', GX a0 pe xs st' → Mg a b out → Q out st') : wpS (model prog w) A E s (mergeLo' a b) Q st := by
  show wpS _ _ _ _ (_ >>= _) _ _
  refine wpS_bind (wpS_lift (wpAny_rule ⟨rfl, ?_⟩))
  obtain ⟨b0, e0, _⟩ := ik_at hb (i := 0) (by omega)
  refine wpS_bind (wpS_elem e0 ?_)
  have L0 : Od a b 0 1 #[b0] := by
    refine ⟨?_, List.pairwise_singleton _ _, fun p hp j _ hj => ?_, fun p hp j _ hj => ?_⟩
    · unfold Laid
      rw [take_at e0]; simp
    · obtain rfl := List.mem_singleton.mp hp
      rw [← K_at e0]; exact F.fb j hj
    · obtain rfl := List.mem_singleton.mp hp
      rw [← K_at e0]; exact F.ub _ _ (by omega) (by omega) hj
  dsimp only
  refine wpS_iteB (fun h1 => wpS_pure (h _ _ hB (L0.fb F (by omega) h1))) fun h1 => ?_
  refine wpS_iteB (fun h2 => wpS_pure (h _ _ hB (L0.fl F (by omega) h2))) fun h2 => ?_
  refine wpS_bind (wpS_get ?_)
  refine wpS_bind (wpS_mono (wpS_forRange (I := fun x c st' => ∃ out ia ib mg, c = (none, out, ia, ib, mg) ∧ MidO a b (x + 1) ia ib out ∧ GX a0 pe xs st') (Q := MRetO a b (GX a0 pe xs)) ?step ?fin ⟨_, _, _, _, rfl, ⟨L0, by omega, by omega, by omega⟩, hB⟩) ?post)
  case fin =>
    rintro c st' ⟨out, ia, ib, mg, rfl, m, g⟩
    have := m.ha; have := m.hb; have := m.pr
    exfalso; omega
  case post =>
    rintro c st' ⟨r, y, rfl, p, g⟩
    exact wpS_pure (h _ _ g p)
  case step =>
    rintro x c st1 _ hx ⟨out, ia, ib, mg, rfl, m, g⟩
    dsimp only
    refine wpS_bind (wpS_mono (wpS_forRange (I := fun x2 c st' => ∃ out ia ib ac bc, c = (none, out, ia, ib, ac, bc) ∧ MidO a b (x + 1 + min x2 1) ia ib out ∧ GX a0 pe xs st')
      (Q := fun c st' => MRetO a b (GX a0 pe xs) c st' ∨ ∃ out ia ib ac bc, c = (none, out, ia, ib, ac, bc) ∧ MidO a b (x + 2) ia ib out ∧ GX a0 pe xs st') ?_ ?_ ⟨_, _, _, _, _, rfl, m, g⟩) ?_)
    · rintro x2 c st2 _ hx2 ⟨out, ia, ib, ac, bc, rfl, m, g⟩
      have m1 := m.ha; have m2 := m.hb; have m3 := m.pr
      dsimp only
      refine wpS_bind (wpS_elemB hb (by omega) fun p1 hp1 kp1 => ?_)
      refine wpS_bind (wpS_elemB ha (by omega) fun p2 hp2 kp2 => ?_)
      refine wpS_bind (wpS_ltP g.1.1.kind kp1 kp2 ?_)
      dsimp only
      refine wpS_ite (fun hbw => ?_) (fun hbw => ?_)
      · refine wpS_bind (wpS_elemB hb (by omega) fun p3 hp3 kp3 => ?_)
        have X := ltA F hp1 hp2 hp3 (of_decide_eq_true hbw)
        refine wpS_iteB (fun e => wpS_pure (.inl ⟨_, _, rfl, (m.laid.pb F hp3 X).fb F (by omega) e, g⟩)) fun ne => ?_
        exact wpS_ite (fun _ => wpS_pure (.inr ⟨_, _, _, _, _, rfl, ⟨m.laid.pb F hp3 X, by omega, by omega, by omega⟩, g⟩)) fun _ => wpS_pure ⟨_, _, _, _, _, rfl, ⟨m.laid.pb F hp3 X, by omega, by omega, by omega⟩, g⟩
      · refine wpS_bind (wpS_elemB ha (by omega) fun p3 hp3 kp3 => ?_)
        have X := ltB F hp1 hp2 hp3 fun z => hbw (decide_eq_true z)
        refine wpS_iteB (fun e => wpS_pure (.inl ⟨_, _, rfl, (m.laid.pa F hp3 X).fl F (by omega) e, g⟩)) fun ne => ?_
        exact wpS_ite (fun _ => wpS_pure (.inr ⟨_, _, _, _, _, rfl, ⟨m.laid.pa F hp3 X, by omega, by omega, by omega⟩, g⟩)) fun _ => wpS_pure ⟨_, _, _, _, _, rfl, ⟨m.laid.pa F hp3 X, by omega, by omega, by omega⟩, g⟩
    · rintro c st2 ⟨out, ia, ib, ac, bc, rfl, m, g⟩
      exact .inr ⟨_, _, _, _, _, rfl, ⟨m.laid, m.ha, m.hb, by have := m.pr; omega⟩, g⟩
    · rintro c st2 (⟨r, y, rfl, p, g⟩ | ⟨out, ia, ib, ac, bc, rfl, m, g⟩)
      · exact wpS_pure ⟨_, _, rfl, p, g⟩
      · dsimp only
        refine wpS_bind (wpS_lift (wpAny_rule ⟨rfl, ?_⟩))
        refine wpS_bind (wpS_mono (wpS_forRange (I := fun _ c st' => ∃ out ia ib mg ac bc, c = (none, out, ia, ib, mg, ac, bc) ∧ MidO a b (x + 2) ia ib out ∧ GX a0 pe xs st')
          (Q := fun c st' => MRetO a b (GX a0 pe xs) c st' ∨ ∃ out ia ib mg ac bc, c = (none, out, ia, ib, mg, ac, bc) ∧ MidO a b (x + 2) ia ib out ∧ GX a0 pe xs st') ?_ ?_ ⟨_, _, _, _, _, _, rfl, m, g⟩) ?_)
        · rintro x3 c st3 _ hx3 ⟨out, ia, ib, mg, ac, bc, rfl, m, g⟩
          have m1 := m.ha; have m2 := m.hb; have m3 := m.pr
          have L := m.laid
          dsimp only
          refine wpS_ite (fun hm => ?_) (fun hm => ?_)
          · refine wpS_bind (wpS_setMin g fun st1 g1 => ?_)
            refine wpS_bind (wpS_elemB hb (by omega) fun p hp kp => ?_)
            refine wpS_bind (gallop_s g1.1.1.kind kp ha (by omega) (by omega) (F.ua.sub (by omega)) fun k hk gk1 gk2 => ?_)
            dsimp only
            refine wpS_ite (fun hk0 => ?_) (fun hk0 => ?_)
            · refine wpS_iteB (fun e => wpS_pure (.inl ⟨_, _, rfl, ((L).ak F (k := k) (by omega) (gA F hp gk1)).fl F (by omega) e, g1⟩)) fun ne1 => ?_
              refine wpS_iteB (fun e => wpS_pure (.inl ⟨_, _, rfl, ((L).ak F (k := k) (by omega) (gA F hp gk1)).fa F (by omega) e, g1⟩)) fun ne2 => ?_
              refine wpS_bind (wpS_elemB hb (by omega) fun q1 hq1 kq1 => ?_)
              refine wpS_iteB (fun e => wpS_pure (.inl ⟨_, _, rfl, (((L).ak F (k := k) (by omega) (gA F hp gk1)).pb F hq1 (gB hp hq1 gk2)).fb F (by omega) e, g1⟩)) fun ne3 => ?_
              refine wpS_bind (wpS_elemB ha (by omega) fun q2 hq2 kq2 => ?_)
              refine wpS_bind (gallop_s g1.1.1.kind kq2 hb (by omega) (by omega) (F.ub.sub (by omega)) fun k2 hk2 gk3 gk4 => ?_)
              dsimp only
              refine wpS_ite (fun h22 => ?_) (fun h22 => ?_)
              · refine wpS_iteB (fun e => wpS_pure (.inl ⟨_, _, rfl, ((((L).ak F (k := k) (by omega) (gA F hp gk1)).pb F hq1 (gB hp hq1 gk2)).bk F (k := k2) (by omega) (gA2 F hq2 gk3)).fb F (by omega) e, g1⟩)) fun ne4 => ?_
                refine wpS_bind (wpS_elemB ha (by omega) fun q3 hq3 kq3 => ?_)
                refine wpS_iteB (fun e => wpS_pure (.inl ⟨_, _, rfl, (((((L).ak F (k := k) (by omega) (gA F hp gk1)).pb F hq1 (gB hp hq1 gk2)).bk F (k := k2) (by omega) (gA2 F hq2 gk3)).pa F hq3 (gB2 hq2 hq3 gk4)).fl F (by omega) e, g1⟩)) fun ne5 => ?_
                refine wpS_ite (fun _ => wpS_pure (.inr ⟨_, _, _, _, _, _, rfl, ⟨((((L).ak F (k := k) (by omega) (gA F hp gk1)).pb F hq1 (gB hp hq1 gk2)).bk F (k := k2) (by omega) (gA2 F hq2 gk3)).pa F hq3 (gB2 hq2 hq3 gk4), by omega, by omega, by omega⟩, g1⟩)) fun _ => wpS_pure ⟨_, _, _, _, _, _, rfl, ⟨((((L).ak F (k := k) (by omega) (gA F hp gk1)).pb F hq1 (gB hp hq1 gk2)).bk F (k := k2) (by omega) (gA2 F hq2 gk3)).pa F hq3 (gB2 hq2 hq3 gk4), by omega, by omega, by omega⟩, g1⟩
              · obtain rfl : k2 = 0 := by omega
                refine wpS_bind (wpS_elemB ha (by omega) fun q3 hq3 kq3 => ?_)
                refine wpS_iteB (fun e => wpS_pure (.inl ⟨_, _, rfl, ((((L).ak F (k := k) (by omega) (gA F hp gk1)).pb F hq1 (gB hp hq1 gk2)).pa F hq3 (gB2 (ib := ib + 1) (k := 0) hq2 hq3 gk4)).fl F (by omega) e, g1⟩)) fun ne5 => ?_
                refine wpS_ite (fun _ => wpS_pure (.inr ⟨_, _, _, _, _, _, rfl, ⟨(((L).ak F (k := k) (by omega) (gA F hp gk1)).pb F hq1 (gB hp hq1 gk2)).pa F hq3 (gB2 (ib := ib + 1) (k := 0) hq2 hq3 gk4), by omega, by omega, by omega⟩, g1⟩)) fun _ => wpS_pure ⟨_, _, _, _, _, _, rfl, ⟨(((L).ak F (k := k) (by omega) (gA F hp gk1)).pb F hq1 (gB hp hq1 gk2)).pa F hq3 (gB2 (ib := ib + 1) (k := 0) hq2 hq3 gk4), by omega, by omega, by omega⟩, g1⟩
            · obtain rfl : k = 0 := by omega
              refine wpS_bind (wpS_elemB hb (by omega) fun q1 hq1 kq1 => ?_)
              refine wpS_iteB (fun e => wpS_pure (.inl ⟨_, _, rfl, ((L).pb F hq1 (gB hp hq1 gk2)).fb F (by omega) e, g1⟩)) fun ne3 => ?_
              refine wpS_bind (wpS_elemB ha (by omega) fun q2 hq2 kq2 => ?_)
              refine wpS_bind (gallop_s g1.1.1.kind kq2 hb (by omega) (by omega) (F.ub.sub (by omega)) fun k2 hk2 gk3 gk4 => ?_)
              dsimp only
              refine wpS_ite (fun h22 => ?_) (fun h22 => ?_)
              · refine wpS_iteB (fun e => wpS_pure (.inl ⟨_, _, rfl, (((L).pb F hq1 (gB hp hq1 gk2)).bk F (k := k2) (by omega) (gA2 F hq2 gk3)).fb F (by omega) e, g1⟩)) fun ne4 => ?_
                refine wpS_bind (wpS_elemB ha (by omega) fun q3 hq3 kq3 => ?_)
                refine wpS_iteB (fun e => wpS_pure (.inl ⟨_, _, rfl, ((((L).pb F hq1 (gB hp hq1 gk2)).bk F (k := k2) (by omega) (gA2 F hq2 gk3)).pa F hq3 (gB2 hq2 hq3 gk4)).fl F (by omega) e, g1⟩)) fun ne5 => ?_
                refine wpS_ite (fun _ => wpS_pure (.inr ⟨_, _, _, _, _, _, rfl, ⟨(((L).pb F hq1 (gB hp hq1 gk2)).bk F (k := k2) (by omega) (gA2 F hq2 gk3)).pa F hq3 (gB2 hq2 hq3 gk4), by omega, by omega, by omega⟩, g1⟩)) fun _ => wpS_pure ⟨_, _, _, _, _, _, rfl, ⟨(((L).pb F hq1 (gB hp hq1 gk2)).bk F (k := k2) (by omega) (gA2 F hq2 gk3)).pa F hq3 (gB2 hq2 hq3 gk4), by omega, by omega, by omega⟩, g1⟩
              · obtain rfl : k2 = 0 := by omega
                refine wpS_bind (wpS_elemB ha (by omega) fun q3 hq3 kq3 => ?_)
                refine wpS_iteB (fun e => wpS_pure (.inl ⟨_, _, rfl, (((L).pb F hq1 (gB hp hq1 gk2)).pa F hq3 (gB2 (ib := ib + 1) (k := 0) hq2 hq3 gk4)).fl F (by omega) e, g1⟩)) fun ne5 => ?_
                refine wpS_ite (fun _ => wpS_pure (.inr ⟨_, _, _, _, _, _, rfl, ⟨((L).pb F hq1 (gB hp hq1 gk2)).pa F hq3 (gB2 (ib := ib + 1) (k := 0) hq2 hq3 gk4), by omega, by omega, by omega⟩, g1⟩)) fun _ => wpS_pure ⟨_, _, _, _, _, _, rfl, ⟨((L).pb F hq1 (gB hp hq1 gk2)).pa F hq3 (gB2 (ib := ib + 1) (k := 0) hq2 hq3 gk4), by omega, by omega, by omega⟩, g1⟩
          · refine wpS_bind (wpS_setMin g fun st1 g1 => ?_)
            refine wpS_bind (wpS_elemB hb (by omega) fun p hp kp => ?_)
            refine wpS_bind (gallop_s g1.1.1.kind kp ha (by omega) (by omega) (F.ua.sub (by omega)) fun k hk gk1 gk2 => ?_)
            dsimp only
            refine wpS_ite (fun hk0 => ?_) (fun hk0 => ?_)
            · refine wpS_iteB (fun e => wpS_pure (.inl ⟨_, _, rfl, ((L).ak F (k := k) (by omega) (gA F hp gk1)).fl F (by omega) e, g1⟩)) fun ne1 => ?_
              refine wpS_iteB (fun e => wpS_pure (.inl ⟨_, _, rfl, ((L).ak F (k := k) (by omega) (gA F hp gk1)).fa F (by omega) e, g1⟩)) fun ne2 => ?_
              refine wpS_bind (wpS_elemB hb (by omega) fun q1 hq1 kq1 => ?_)
              refine wpS_iteB (fun e => wpS_pure (.inl ⟨_, _, rfl, (((L).ak F (k := k) (by omega) (gA F hp gk1)).pb F hq1 (gB hp hq1 gk2)).fb F (by omega) e, g1⟩)) fun ne3 => ?_
              refine wpS_bind (wpS_elemB ha (by omega) fun q2 hq2 kq2 => ?_)
              refine wpS_bind (gallop_s g1.1.1.kind kq2 hb (by omega) (by omega) (F.ub.sub (by omega)) fun k2 hk2 gk3 gk4 => ?_)
              dsimp only
              refine wpS_ite (fun h22 => ?_) (fun h22 => ?_)
              · refine wpS_iteB (fun e => wpS_pure (.inl ⟨_, _, rfl, ((((L).ak F (k := k) (by omega) (gA F hp gk1)).pb F hq1 (gB hp hq1 gk2)).bk F (k := k2) (by omega) (gA2 F hq2 gk3)).fb F (by omega) e, g1⟩)) fun ne4 => ?_
                refine wpS_bind (wpS_elemB ha (by omega) fun q3 hq3 kq3 => ?_)
                refine wpS_iteB (fun e => wpS_pure (.inl ⟨_, _, rfl, (((((L).ak F (k := k) (by omega) (gA F hp gk1)).pb F hq1 (gB hp hq1 gk2)).bk F (k := k2) (by omega) (gA2 F hq2 gk3)).pa F hq3 (gB2 hq2 hq3 gk4)).fl F (by omega) e, g1⟩)) fun ne5 => ?_
                refine wpS_ite (fun _ => wpS_pure (.inr ⟨_, _, _, _, _, _, rfl, ⟨((((L).ak F (k := k) (by omega) (gA F hp gk1)).pb F hq1 (gB hp hq1 gk2)).bk F (k := k2) (by omega) (gA2 F hq2 gk3)).pa F hq3 (gB2 hq2 hq3 gk4), by omega, by omega, by omega⟩, g1⟩)) fun _ => wpS_pure ⟨_, _, _, _, _, _, rfl, ⟨((((L).ak F (k := k) (by omega) (gA F hp gk1)).pb F hq1 (gB hp hq1 gk2)).bk F (k := k2) (by omega) (gA2 F hq2 gk3)).pa F hq3 (gB2 hq2 hq3 gk4), by omega, by omega, by omega⟩, g1⟩
              · obtain rfl : k2 = 0 := by omega
                refine wpS_bind (wpS_elemB ha (by omega) fun q3 hq3 kq3 => ?_)
                refine wpS_iteB (fun e => wpS_pure (.inl ⟨_, _, rfl, ((((L).ak F (k := k) (by omega) (gA F hp gk1)).pb F hq1 (gB hp hq1 gk2)).pa F hq3 (gB2 (ib := ib + 1) (k := 0) hq2 hq3 gk4)).fl F (by omega) e, g1⟩)) fun ne5 => ?_
                refine wpS_ite (fun _ => wpS_pure (.inr ⟨_, _, _, _, _, _, rfl, ⟨(((L).ak F (k := k) (by omega) (gA F hp gk1)).pb F hq1 (gB hp hq1 gk2)).pa F hq3 (gB2 (ib := ib + 1) (k := 0) hq2 hq3 gk4), by omega, by omega, by omega⟩, g1⟩)) fun _ => wpS_pure ⟨_, _, _, _, _, _, rfl, ⟨(((L).ak F (k := k) (by omega) (gA F hp gk1)).pb F hq1 (gB hp hq1 gk2)).pa F hq3 (gB2 (ib := ib + 1) (k := 0) hq2 hq3 gk4), by omega, by omega, by omega⟩, g1⟩
            · obtain rfl : k = 0 := by omega
              refine wpS_bind (wpS_elemB hb (by omega) fun q1 hq1 kq1 => ?_)
              refine wpS_iteB (fun e => wpS_pure (.inl ⟨_, _, rfl, ((L).pb F hq1 (gB hp hq1 gk2)).fb F (by omega) e, g1⟩)) fun ne3 => ?_
              refine wpS_bind (wpS_elemB ha (by omega) fun q2 hq2 kq2 => ?_)
              refine wpS_bind (gallop_s g1.1.1.kind kq2 hb (by omega) (by omega) (F.ub.sub (by omega)) fun k2 hk2 gk3 gk4 => ?_)
              dsimp only
              refine wpS_ite (fun h22 => ?_) (fun h22 => ?_)
              · refine wpS_iteB (fun e => wpS_pure (.inl ⟨_, _, rfl, (((L).pb F hq1 (gB hp hq1 gk2)).bk F (k := k2) (by omega) (gA2 F hq2 gk3)).fb F (by omega) e, g1⟩)) fun ne4 => ?_
                refine wpS_bind (wpS_elemB ha (by omega) fun q3 hq3 kq3 => ?_)
                refine wpS_iteB (fun e => wpS_pure (.inl ⟨_, _, rfl, ((((L).pb F hq1 (gB hp hq1 gk2)).bk F (k := k2) (by omega) (gA2 F hq2 gk3)).pa F hq3 (gB2 hq2 hq3 gk4)).fl F (by omega) e, g1⟩)) fun ne5 => ?_
                refine wpS_ite (fun _ => wpS_pure (.inr ⟨_, _, _, _, _, _, rfl, ⟨(((L).pb F hq1 (gB hp hq1 gk2)).bk F (k := k2) (by omega) (gA2 F hq2 gk3)).pa F hq3 (gB2 hq2 hq3 gk4), by omega, by omega, by omega⟩, g1⟩)) fun _ => wpS_pure ⟨_, _, _, _, _, _, rfl, ⟨(((L).pb F hq1 (gB hp hq1 gk2)).bk F (k := k2) (by omega) (gA2 F hq2 gk3)).pa F hq3 (gB2 hq2 hq3 gk4), by omega, by omega, by omega⟩, g1⟩
              · obtain rfl : k2 = 0 := by omega
                refine wpS_bind (wpS_elemB ha (by omega) fun q3 hq3 kq3 => ?_)
                refine wpS_iteB (fun e => wpS_pure (.inl ⟨_, _, rfl, (((L).pb F hq1 (gB hp hq1 gk2)).pa F hq3 (gB2 (ib := ib + 1) (k := 0) hq2 hq3 gk4)).fl F (by omega) e, g1⟩)) fun ne5 => ?_
                refine wpS_ite (fun _ => wpS_pure (.inr ⟨_, _, _, _, _, _, rfl, ⟨((L).pb F hq1 (gB hp hq1 gk2)).pa F hq3 (gB2 (ib := ib + 1) (k := 0) hq2 hq3 gk4), by omega, by omega, by omega⟩, g1⟩)) fun _ => wpS_pure ⟨_, _, _, _, _, _, rfl, ⟨((L).pb F hq1 (gB hp hq1 gk2)).pa F hq3 (gB2 (ib := ib + 1) (k := 0) hq2 hq3 gk4), by omega, by omega, by omega⟩, g1⟩
        · rintro c st3 z; exact .inr z
        · rintro c st3 (⟨r, y, rfl, p, g⟩ | ⟨out, ia, ib, mg, ac, bc, rfl, m, g⟩)
          · exact wpS_pure ⟨_, _, rfl, p, g⟩
          · exact wpS_bind (wpS_setMin g fun st4 g4 => wpS_pure ⟨_, _, _, _, rfl, m, g4⟩)
end
end SB

set_option Elab.async false
set_option maxRecDepth 100000
set_option maxHeartbeats 4000000
namespace SB
open PySem PyProof.Rows
section
variable {prog : Program} {w : World} {A : Around} {E : Value → Shared → Prop} {s : Shared} {a0 : Array Keyed}
theorem mergeHi_s {a b : Array Keyed} {pe : Array (Nat × Nat × Nat)} {xs : Array Keyed} {st : SortSt} {Q : Array Keyed → SortSt → Prop} (hB : GX a0 pe xs st) (ha : IntKeys a) (hb : IntKeys b) (ha1 : 1 ≤ a.size) (hb1 : 1 ≤ b.size)
    (F : Fit a b) (h : ∀ out st', GX a0 pe xs st' → Mg a b out → Q out st') : wpS (model prog w) A E s (mergeHi' a b) Q st := by
  show wpS _ _ _ _ (_ >>= _) _ _
  refine wpS_bind (wpS_lift (wpAny_rule ⟨rfl, ?_⟩))
  obtain ⟨b0, e0, _⟩ := ik_at ha (i := a.size - 1) (by omega)
  refine wpS_bind (wpS_elem e0 ?_)
  have L0 : OdH a b (a.size - 1) b.size #[b0] := by
    refine ⟨?_, List.pairwise_singleton _ _, fun p hp j hj => ?_, fun p hp j hj => ?_⟩
    · unfold LaidH
      rw [drop_at e0, List.drop_of_length_le (by simp; omega), List.drop_of_length_le (by simp)]
      simp
    · obtain rfl := List.mem_singleton.mp hp
      rw [← K_at e0]; exact F.ua _ _ (by omega) (by omega) (by omega)
    · obtain rfl := List.mem_singleton.mp hp
      rw [← K_at e0]; exact F.la j hj
  dsimp only
  refine wpS_iteB (fun h1 => wpS_pure (h _ _ hB (L0.fz F (by omega) h1))) fun h1 => ?_
  refine wpS_iteB (fun h2 => wpS_pure (h _ _ hB (L0.fl F (by omega) (by omega) h2))) fun h2 => ?_
  refine wpS_bind (wpS_get ?_)
  refine wpS_bind (wpS_mono (wpS_forRange (a := 0) (I := fun x c st' => ∃ out na nb mg, c = (none, na, nb, out, mg) ∧ MidHO a b (x + 1) na nb out ∧ GX a0 pe xs st') (Q := MRetO a b (GX a0 pe xs)) ?step ?fin ⟨#[b0], a.size - 1, b.size, gallopOf st, rfl, ⟨L0, by omega, by omega, by omega, by omega, by omega⟩, hB⟩) ?post)
  case fin =>
    rintro c st' ⟨out, na, nb, mg, rfl, m, g⟩
    have := m.ha; have := m.hb; have := m.pr
    exfalso; omega
  case post =>
    rintro c st' ⟨r, y, rfl, p, g⟩
    exact wpS_pure (h _ _ g p)
  case step =>
    rintro x c st1 _ hx ⟨out, na, nb, mg, rfl, m, g⟩
    dsimp only
    refine wpS_bind (wpS_mono (wpS_forRange (I := fun x2 c st' => ∃ out na nb ac bc, c = (none, na, nb, out, ac, bc) ∧ MidHO a b (x + 1 + min x2 1) na nb out ∧ GX a0 pe xs st')
      (Q := fun c st' => MRetO a b (GX a0 pe xs) c st' ∨ ∃ out na nb ac bc, c = (none, na, nb, out, ac, bc) ∧ MidHO a b (x + 2) na nb out ∧ GX a0 pe xs st') ?_ ?_ ⟨_, _, _, _, _, rfl, m, g⟩) ?_)
    · rintro x2 c st2 _ hx2 ⟨out, na, nb, ac, bc, rfl, m, g⟩
      have m1 := m.ha; have m2 := m.hb; have m3 := m.pr; have m4 := m.ha2; have m5 := m.hb2
      dsimp only
      refine wpS_bind (wpS_elemB hb (by omega) fun p1 hp1 kp1 => ?_)
      refine wpS_bind (wpS_elemB ha (by omega) fun p2 hp2 kp2 => ?_)
      refine wpS_bind (wpS_ltP g.1.1.kind kp1 kp2 ?_)
      dsimp only
      refine wpS_ite (fun hbw => ?_) (fun hbw => ?_)
      · refine wpS_bind (wpS_elemB ha (by omega) fun p3 hp3 kp3 => ?_)
        have X := ltAH F hp1 hp2 hp3 m5 (of_decide_eq_true hbw)
        refine wpS_iteB (fun e => wpS_pure (.inl ⟨_, _, rfl, (m.laid.pa F (by omega) hp3 X).fz F (by omega) e, g⟩)) fun ne => ?_
        exact wpS_ite (fun _ => wpS_pure (.inr ⟨_, _, _, _, _, rfl, ⟨m.laid.pa F (by omega) hp3 X, by omega, by omega, by omega, by omega, by omega⟩, g⟩)) fun _ => wpS_pure ⟨_, _, _, _, _, rfl, ⟨m.laid.pa F (by omega) hp3 X, by omega, by omega, by omega, by omega, by omega⟩, g⟩
      · refine wpS_bind (wpS_elemB hb (by omega) fun p3 hp3 kp3 => ?_)
        have X := ltBH F hp1 hp2 hp3 m4 fun z => hbw (decide_eq_true z)
        refine wpS_iteB (fun e => wpS_pure (.inl ⟨_, _, rfl, (m.laid.pb F (by omega) hp3 X).fl F (by omega) (by omega) e, g⟩)) fun ne => ?_
        exact wpS_ite (fun _ => wpS_pure (.inr ⟨_, _, _, _, _, rfl, ⟨m.laid.pb F (by omega) hp3 X, by omega, by omega, by omega, by omega, by omega⟩, g⟩)) fun _ => wpS_pure ⟨_, _, _, _, _, rfl, ⟨m.laid.pb F (by omega) hp3 X, by omega, by omega, by omega, by omega, by omega⟩, g⟩
    · rintro c st2 ⟨out, na, nb, ac, bc, rfl, m, g⟩
      exact .inr ⟨_, _, _, _, _, rfl, ⟨m.laid, m.ha, m.ha2, m.hb, m.hb2, by have := m.pr; omega⟩, g⟩
    · rintro c st2 (⟨r, y, rfl, p, g⟩ | ⟨out, na, nb, ac, bc, rfl, m, g⟩)
      · exact wpS_pure ⟨_, _, rfl, p, g⟩
      · dsimp only
        refine wpS_bind (wpS_lift (wpAny_rule ⟨rfl, ?_⟩))
        refine wpS_bind (wpS_mono (wpS_forRange (I := fun _ c st' => ∃ out na nb mg ac bc, c = (none, na, nb, out, mg, ac, bc) ∧ MidHO a b (x + 2) na nb out ∧ GX a0 pe xs st')
          (Q := fun c st' => MRetO a b (GX a0 pe xs) c st' ∨ ∃ out na nb mg ac bc, c = (none, na, nb, out, mg, ac, bc) ∧ MidHO a b (x + 2) na nb out ∧ GX a0 pe xs st') ?_ ?_ ⟨_, _, _, _, _, _, rfl, m, g⟩) ?_)
        · rintro x3 c st3 _ hx3 ⟨out, na, nb, mg, ac, bc, rfl, m, g⟩
          have m1 := m.ha; have m2 := m.hb; have m3 := m.pr; have m4 := m.ha2; have m5 := m.hb2
          have L := m.laid
          dsimp only
          refine wpS_ite (fun hm => ?_) (fun hm => ?_)
          · refine wpS_bind (wpS_setMin g fun st1 g1 => ?_)
            refine wpS_bind (wpS_elemB hb (by omega) fun p hp kp => ?_)
            refine wpS_bind (gallop_s g1.1.1.kind kp ha (by omega) (by omega) (F.ua.sub (by omega)) fun k hk gk1 gk2 => ?_)
            dsimp only
            refine wpS_ite (fun hk0 => ?_) (fun hk0 => ?_)
            · refine wpS_iteB (fun e => wpS_pure (.inl ⟨_, _, rfl, ((L).ak F hk (by omega) (hA1 F hp (by omega) gk2)).fz F (by omega) e, g1⟩)) fun ne1 => ?_
              refine wpS_bind (wpS_elemB hb (by omega) fun q1 hq1 kq1 => ?_)
              refine wpS_iteB (fun e => wpS_pure (.inl ⟨_, _, rfl, (((L).ak F hk (by omega) (hA1 F hp (by omega) gk2)).pb F (by omega) hq1 (fun j hj => hB1 hp hq1 gk1 j (by omega))).fl F (by omega) (by omega) e, g1⟩)) fun ne3 => ?_
              refine wpS_bind (wpS_elemB ha (by omega) fun q2 hq2 kq2 => ?_)
              refine wpS_bind (gallop_s g1.1.1.kind kq2 hb (by omega) (by omega) (F.ub.sub (by omega)) fun k2 hk2 gk3 gk4 => ?_)
              dsimp only
              refine wpS_ite (fun h22 => ?_) (fun h22 => ?_)
              · refine wpS_iteB (fun e => wpS_pure (.inl ⟨_, _, rfl, ((((L).ak F hk (by omega) (hA1 F hp (by omega) gk2)).pb F (by omega) hq1 (fun j hj => hB1 hp hq1 gk1 j (by omega))).bk F hk2 (by omega) (hA2 F hq2 (by omega) gk4)).fl F (by omega) (by omega) e, g1⟩)) fun ne4 => ?_
                refine wpS_iteB (fun e => wpS_pure (.inl ⟨_, _, rfl, ((((L).ak F hk (by omega) (hA1 F hp (by omega) gk2)).pb F (by omega) hq1 (fun j hj => hB1 hp hq1 gk1 j (by omega))).bk F hk2 (by omega) (hA2 F hq2 (by omega) gk4)).fn F (by omega) e, g1⟩)) fun ne4b => ?_
                refine wpS_bind (wpS_elemB ha (by omega) fun q3 hq3 kq3 => ?_)
                refine wpS_iteB (fun e => wpS_pure (.inl ⟨_, _, rfl, (((((L).ak F hk (by omega) (hA1 F hp (by omega) gk2)).pb F (by omega) hq1 (fun j hj => hB1 hp hq1 gk1 j (by omega))).bk F hk2 (by omega) (hA2 F hq2 (by omega) gk4)).pa F (by omega) hq3 (fun j hj => hB2 hq2 hq3 gk3 j (by omega))).fz F (by omega) e, g1⟩)) fun ne5 => ?_
                refine wpS_ite (fun _ => wpS_pure (.inr ⟨_, _, _, _, _, _, rfl, ⟨((((L).ak F hk (by omega) (hA1 F hp (by omega) gk2)).pb F (by omega) hq1 (fun j hj => hB1 hp hq1 gk1 j (by omega))).bk F hk2 (by omega) (hA2 F hq2 (by omega) gk4)).pa F (by omega) hq3 (fun j hj => hB2 hq2 hq3 gk3 j (by omega)), by omega, by omega, by omega, by omega, by omega⟩, g1⟩)) fun _ => wpS_pure ⟨_, _, _, _, _, _, rfl, ⟨((((L).ak F hk (by omega) (hA1 F hp (by omega) gk2)).pb F (by omega) hq1 (fun j hj => hB1 hp hq1 gk1 j (by omega))).bk F hk2 (by omega) (hA2 F hq2 (by omega) gk4)).pa F (by omega) hq3 (fun j hj => hB2 hq2 hq3 gk3 j (by omega)), by omega, by omega, by omega, by omega, by omega⟩, g1⟩
              · refine wpS_bind (wpS_elemB ha (by omega) fun q3 hq3 kq3 => ?_)
                refine wpS_iteB (fun e => wpS_pure (.inl ⟨_, _, rfl, ((((L).ak F hk (by omega) (hA1 F hp (by omega) gk2)).pb F (by omega) hq1 (fun j hj => hB1 hp hq1 gk1 j (by omega))).pa F (by omega) hq3 (fun j hj => hB2 hq2 hq3 gk3 j (by omega))).fz F (by omega) e, g1⟩)) fun ne5 => ?_
                refine wpS_ite (fun _ => wpS_pure (.inr ⟨_, _, _, _, _, _, rfl, ⟨(((L).ak F hk (by omega) (hA1 F hp (by omega) gk2)).pb F (by omega) hq1 (fun j hj => hB1 hp hq1 gk1 j (by omega))).pa F (by omega) hq3 (fun j hj => hB2 hq2 hq3 gk3 j (by omega)), by omega, by omega, by omega, by omega, by omega⟩, g1⟩)) fun _ => wpS_pure ⟨_, _, _, _, _, _, rfl, ⟨(((L).ak F hk (by omega) (hA1 F hp (by omega) gk2)).pb F (by omega) hq1 (fun j hj => hB1 hp hq1 gk1 j (by omega))).pa F (by omega) hq3 (fun j hj => hB2 hq2 hq3 gk3 j (by omega)), by omega, by omega, by omega, by omega, by omega⟩, g1⟩
            · refine wpS_bind (wpS_elemB hb (by omega) fun q1 hq1 kq1 => ?_)
              refine wpS_iteB (fun e => wpS_pure (.inl ⟨_, _, rfl, ((L).pb F (by omega) hq1 (fun j hj => hB1 hp hq1 gk1 j (by omega))).fl F (by omega) (by omega) e, g1⟩)) fun ne3 => ?_
              refine wpS_bind (wpS_elemB ha (by omega) fun q2 hq2 kq2 => ?_)
              refine wpS_bind (gallop_s g1.1.1.kind kq2 hb (by omega) (by omega) (F.ub.sub (by omega)) fun k2 hk2 gk3 gk4 => ?_)
              dsimp only
              refine wpS_ite (fun h22 => ?_) (fun h22 => ?_)
              · refine wpS_iteB (fun e => wpS_pure (.inl ⟨_, _, rfl, (((L).pb F (by omega) hq1 (fun j hj => hB1 hp hq1 gk1 j (by omega))).bk F hk2 (by omega) (hA2 F hq2 (by omega) gk4)).fl F (by omega) (by omega) e, g1⟩)) fun ne4 => ?_
                refine wpS_iteB (fun e => wpS_pure (.inl ⟨_, _, rfl, (((L).pb F (by omega) hq1 (fun j hj => hB1 hp hq1 gk1 j (by omega))).bk F hk2 (by omega) (hA2 F hq2 (by omega) gk4)).fn F (by omega) e, g1⟩)) fun ne4b => ?_
                refine wpS_bind (wpS_elemB ha (by omega) fun q3 hq3 kq3 => ?_)
                refine wpS_iteB (fun e => wpS_pure (.inl ⟨_, _, rfl, ((((L).pb F (by omega) hq1 (fun j hj => hB1 hp hq1 gk1 j (by omega))).bk F hk2 (by omega) (hA2 F hq2 (by omega) gk4)).pa F (by omega) hq3 (fun j hj => hB2 hq2 hq3 gk3 j (by omega))).fz F (by omega) e, g1⟩)) fun ne5 => ?_
                refine wpS_ite (fun _ => wpS_pure (.inr ⟨_, _, _, _, _, _, rfl, ⟨(((L).pb F (by omega) hq1 (fun j hj => hB1 hp hq1 gk1 j (by omega))).bk F hk2 (by omega) (hA2 F hq2 (by omega) gk4)).pa F (by omega) hq3 (fun j hj => hB2 hq2 hq3 gk3 j (by omega)), by omega, by omega, by omega, by omega, by omega⟩, g1⟩)) fun _ => wpS_pure ⟨_, _, _, _, _, _, rfl, ⟨(((L).pb F (by omega) hq1 (fun j hj => hB1 hp hq1 gk1 j (by omega))).bk F hk2 (by omega) (hA2 F hq2 (by omega) gk4)).pa F (by omega) hq3 (fun j hj => hB2 hq2 hq3 gk3 j (by omega)), by omega, by omega, by omega, by omega, by omega⟩, g1⟩
              · refine wpS_bind (wpS_elemB ha (by omega) fun q3 hq3 kq3 => ?_)
                refine wpS_iteB (fun e => wpS_pure (.inl ⟨_, _, rfl, (((L).pb F (by omega) hq1 (fun j hj => hB1 hp hq1 gk1 j (by omega))).pa F (by omega) hq3 (fun j hj => hB2 hq2 hq3 gk3 j (by omega))).fz F (by omega) e, g1⟩)) fun ne5 => ?_
                refine wpS_ite (fun _ => wpS_pure (.inr ⟨_, _, _, _, _, _, rfl, ⟨((L).pb F (by omega) hq1 (fun j hj => hB1 hp hq1 gk1 j (by omega))).pa F (by omega) hq3 (fun j hj => hB2 hq2 hq3 gk3 j (by omega)), by omega, by omega, by omega, by omega, by omega⟩, g1⟩)) fun _ => wpS_pure ⟨_, _, _, _, _, _, rfl, ⟨((L).pb F (by omega) hq1 (fun j hj => hB1 hp hq1 gk1 j (by omega))).pa F (by omega) hq3 (fun j hj => hB2 hq2 hq3 gk3 j (by omega)), by omega, by omega, by omega, by omega, by omega⟩, g1⟩
          · refine wpS_bind (wpS_setMin g fun st1 g1 => ?_)
            refine wpS_bind (wpS_elemB hb (by omega) fun p hp kp => ?_)
            refine wpS_bind (gallop_s g1.1.1.kind kp ha (by omega) (by omega) (F.ua.sub (by omega)) fun k hk gk1 gk2 => ?_)
            dsimp only
            refine wpS_ite (fun hk0 => ?_) (fun hk0 => ?_)
            · refine wpS_iteB (fun e => wpS_pure (.inl ⟨_, _, rfl, ((L).ak F hk (by omega) (hA1 F hp (by omega) gk2)).fz F (by omega) e, g1⟩)) fun ne1 => ?_
              refine wpS_bind (wpS_elemB hb (by omega) fun q1 hq1 kq1 => ?_)
              refine wpS_iteB (fun e => wpS_pure (.inl ⟨_, _, rfl, (((L).ak F hk (by omega) (hA1 F hp (by omega) gk2)).pb F (by omega) hq1 (fun j hj => hB1 hp hq1 gk1 j (by omega))).fl F (by omega) (by omega) e, g1⟩)) fun ne3 => ?_
              refine wpS_bind (wpS_elemB ha (by omega) fun q2 hq2 kq2 => ?_)
              refine wpS_bind (gallop_s g1.1.1.kind kq2 hb (by omega) (by omega) (F.ub.sub (by omega)) fun k2 hk2 gk3 gk4 => ?_)
              dsimp only
              refine wpS_ite (fun h22 => ?_) (fun h22 => ?_)
              · refine wpS_iteB (fun e => wpS_pure (.inl ⟨_, _, rfl, ((((L).ak F hk (by omega) (hA1 F hp (by omega) gk2)).pb F (by omega) hq1 (fun j hj => hB1 hp hq1 gk1 j (by omega))).bk F hk2 (by omega) (hA2 F hq2 (by omega) gk4)).fl F (by omega) (by omega) e, g1⟩)) fun ne4 => ?_
                refine wpS_iteB (fun e => wpS_pure (.inl ⟨_, _, rfl, ((((L).ak F hk (by omega) (hA1 F hp (by omega) gk2)).pb F (by omega) hq1 (fun j hj => hB1 hp hq1 gk1 j (by omega))).bk F hk2 (by omega) (hA2 F hq2 (by omega) gk4)).fn F (by omega) e, g1⟩)) fun ne4b => ?_
                refine wpS_bind (wpS_elemB ha (by omega) fun q3 hq3 kq3 => ?_)
                refine wpS_iteB (fun e => wpS_pure (.inl ⟨_, _, rfl, (((((L).ak F hk (by omega) (hA1 F hp (by omega) gk2)).pb F (by omega) hq1 (fun j hj => hB1 hp hq1 gk1 j (by omega))).bk F hk2 (by omega) (hA2 F hq2 (by omega) gk4)).pa F (by omega) hq3 (fun j hj => hB2 hq2 hq3 gk3 j (by omega))).fz F (by omega) e, g1⟩)) fun ne5 => ?_
                refine wpS_ite (fun _ => wpS_pure (.inr ⟨_, _, _, _, _, _, rfl, ⟨((((L).ak F hk (by omega) (hA1 F hp (by omega) gk2)).pb F (by omega) hq1 (fun j hj => hB1 hp hq1 gk1 j (by omega))).bk F hk2 (by omega) (hA2 F hq2 (by omega) gk4)).pa F (by omega) hq3 (fun j hj => hB2 hq2 hq3 gk3 j (by omega)), by omega, by omega, by omega, by omega, by omega⟩, g1⟩)) fun _ => wpS_pure ⟨_, _, _, _, _, _, rfl, ⟨((((L).ak F hk (by omega) (hA1 F hp (by omega) gk2)).pb F (by omega) hq1 (fun j hj => hB1 hp hq1 gk1 j (by omega))).bk F hk2 (by omega) (hA2 F hq2 (by omega) gk4)).pa F (by omega) hq3 (fun j hj => hB2 hq2 hq3 gk3 j (by omega)), by omega, by omega, by omega, by omega, by omega⟩, g1⟩
              · refine wpS_bind (wpS_elemB ha (by omega) fun q3 hq3 kq3 => ?_)
                refine wpS_iteB (fun e => wpS_pure (.inl ⟨_, _, rfl, ((((L).ak F hk (by omega) (hA1 F hp (by omega) gk2)).pb F (by omega) hq1 (fun j hj => hB1 hp hq1 gk1 j (by omega))).pa F (by omega) hq3 (fun j hj => hB2 hq2 hq3 gk3 j (by omega))).fz F (by omega) e, g1⟩)) fun ne5 => ?_
                refine wpS_ite (fun _ => wpS_pure (.inr ⟨_, _, _, _, _, _, rfl, ⟨(((L).ak F hk (by omega) (hA1 F hp (by omega) gk2)).pb F (by omega) hq1 (fun j hj => hB1 hp hq1 gk1 j (by omega))).pa F (by omega) hq3 (fun j hj => hB2 hq2 hq3 gk3 j (by omega)), by omega, by omega, by omega, by omega, by omega⟩, g1⟩)) fun _ => wpS_pure ⟨_, _, _, _, _, _, rfl, ⟨(((L).ak F hk (by omega) (hA1 F hp (by omega) gk2)).pb F (by omega) hq1 (fun j hj => hB1 hp hq1 gk1 j (by omega))).pa F (by omega) hq3 (fun j hj => hB2 hq2 hq3 gk3 j (by omega)), by omega, by omega, by omega, by omega, by omega⟩, g1⟩
            · refine wpS_bind (wpS_elemB hb (by omega) fun q1 hq1 kq1 => ?_)
              refine wpS_iteB (fun e => wpS_pure (.inl ⟨_, _, rfl, ((L).pb F (by omega) hq1 (fun j hj => hB1 hp hq1 gk1 j (by omega))).fl F (by omega) (by omega) e, g1⟩)) fun ne3 => ?_
              refine wpS_bind (wpS_elemB ha (by omega) fun q2 hq2 kq2 => ?_)
              refine wpS_bind (gallop_s g1.1.1.kind kq2 hb (by omega) (by omega) (F.ub.sub (by omega)) fun k2 hk2 gk3 gk4 => ?_)
              dsimp only
              refine wpS_ite (fun h22 => ?_) (fun h22 => ?_)
              · refine wpS_iteB (fun e => wpS_pure (.inl ⟨_, _, rfl, (((L).pb F (by omega) hq1 (fun j hj => hB1 hp hq1 gk1 j (by omega))).bk F hk2 (by omega) (hA2 F hq2 (by omega) gk4)).fl F (by omega) (by omega) e, g1⟩)) fun ne4 => ?_
                refine wpS_iteB (fun e => wpS_pure (.inl ⟨_, _, rfl, (((L).pb F (by omega) hq1 (fun j hj => hB1 hp hq1 gk1 j (by omega))).bk F hk2 (by omega) (hA2 F hq2 (by omega) gk4)).fn F (by omega) e, g1⟩)) fun ne4b => ?_
                refine wpS_bind (wpS_elemB ha (by omega) fun q3 hq3 kq3 => ?_)
                refine wpS_iteB (fun e => wpS_pure (.inl ⟨_, _, rfl, ((((L).pb F (by omega) hq1 (fun j hj => hB1 hp hq1 gk1 j (by omega))).bk F hk2 (by omega) (hA2 F hq2 (by omega) gk4)).pa F (by omega) hq3 (fun j hj => hB2 hq2 hq3 gk3 j (by omega))).fz F (by omega) e, g1⟩)) fun ne5 => ?_
                refine wpS_ite (fun _ => wpS_pure (.inr ⟨_, _, _, _, _, _, rfl, ⟨(((L).pb F (by omega) hq1 (fun j hj => hB1 hp hq1 gk1 j (by omega))).bk F hk2 (by omega) (hA2 F hq2 (by omega) gk4)).pa F (by omega) hq3 (fun j hj => hB2 hq2 hq3 gk3 j (by omega)), by omega, by omega, by omega, by omega, by omega⟩, g1⟩)) fun _ => wpS_pure ⟨_, _, _, _, _, _, rfl, ⟨(((L).pb F (by omega) hq1 (fun j hj => hB1 hp hq1 gk1 j (by omega))).bk F hk2 (by omega) (hA2 F hq2 (by omega) gk4)).pa F (by omega) hq3 (fun j hj => hB2 hq2 hq3 gk3 j (by omega)), by omega, by omega, by omega, by omega, by omega⟩, g1⟩
              · refine wpS_bind (wpS_elemB ha (by omega) fun q3 hq3 kq3 => ?_)
                refine wpS_iteB (fun e => wpS_pure (.inl ⟨_, _, rfl, (((L).pb F (by omega) hq1 (fun j hj => hB1 hp hq1 gk1 j (by omega))).pa F (by omega) hq3 (fun j hj => hB2 hq2 hq3 gk3 j (by omega))).fz F (by omega) e, g1⟩)) fun ne5 => ?_
                refine wpS_ite (fun _ => wpS_pure (.inr ⟨_, _, _, _, _, _, rfl, ⟨((L).pb F (by omega) hq1 (fun j hj => hB1 hp hq1 gk1 j (by omega))).pa F (by omega) hq3 (fun j hj => hB2 hq2 hq3 gk3 j (by omega)), by omega, by omega, by omega, by omega, by omega⟩, g1⟩)) fun _ => wpS_pure ⟨_, _, _, _, _, _, rfl, ⟨((L).pb F (by omega) hq1 (fun j hj => hB1 hp hq1 gk1 j (by omega))).pa F (by omega) hq3 (fun j hj => hB2 hq2 hq3 gk3 j (by omega)), by omega, by omega, by omega, by omega, by omega⟩, g1⟩
        · rintro c st3 z; exact .inr z
        · rintro c st3 (⟨r, y, rfl, p, g⟩ | ⟨out, na, nb, mg, ac, bc, rfl, m, g⟩)
          · exact wpS_pure ⟨_, _, rfl, p, g⟩
          · exact wpS_bind (wpS_setMin g fun st4 g4 => wpS_pure ⟨_, _, _, _, rfl, m, g4⟩)

end
end SB

set_option Elab.async false
set_option maxRecDepth 100000
set_option maxHeartbeats 4000000
namespace SB
open PySem PyProof.Rows
section
variable {prog : Program} {w : World} {A : Around} {E : Value → Shared → Prop} {s : Shared} {a0 : Array Keyed}
theorem K_ext {xs : Array Keyed} {i j m : Nat} (hm : i + m < j) (hj : j ≤ xs.size) : K (xs.extract i j) m = K xs (i + m) := by
  have h : (xs.extract i j)[m]? = xs[i + m]? := by
    rw [Array.getElem?_extract, if_pos (by omega)]
  exact K_congr h
theorem K_list (xs : Array Keyed) (i : Nat) : K xs i = ((xs.toList[i]?).map ks).getD 0 := by
  unfold K
  rw [Array.getElem?_toList]
  cases xs[i]? <;> rfl
theorem put_up {xs ys out : Array Keyed} {sa m1 m2 e : Nat} (hl : ys.toList = xs.toList.take m1 ++ out.toList ++ xs.toList.drop m2) (h12 : m1 ≤ m2) (h2 : m2 ≤ xs.size) (ho : out.size = m2 - m1) (hs : Srt out.toList)
    (u1 : Up xs sa m1) (u2 : Up xs m2 e) (c1 : ∀ i, sa ≤ i → i < m1 → ∀ p, p ∈ out.toList → K xs i ≤ ks p) (c2 : ∀ j, m2 ≤ j → j < e → ∀ p, p ∈ out.toList → ks p ≤ K xs j)
    (c3 : ∀ i j, sa ≤ i → i < m1 → m2 ≤ j → j < e → K xs i ≤ K xs j) : Up ys sa e ∧ ∀ k, k < m1 ∨ m2 ≤ k → K ys k = K xs k := by
  have lt : (xs.toList.take m1).length = m1 := by rw [List.length_take, Array.length_toList]; omega
  have lo : out.toList.length = m2 - m1 := by rw [Array.length_toList]; exact ho
  have e1 : ∀ k, k < m1 → K ys k = K xs k := fun k hk => by
    rw [K_list, K_list, hl, List.append_assoc, List.getElem?_append_left (by omega), List.getElem?_take_of_lt hk]
  have e2 : ∀ k, m2 ≤ k → K ys k = K xs k := fun k hk => by
    rw [K_list, K_list, hl, List.getElem?_append_right (by rw [List.length_append]; omega), List.getElem?_drop, List.length_append, lt, lo, show m2 + (k - (m1 + (m2 - m1))) = k by omega]
  have e3 : ∀ k, m1 ≤ k → k < m2 → ∃ h : k - m1 < out.toList.length, K ys k = ks (out.toList[k - m1]) := fun k h3 h4 => by
    refine ⟨by omega, ?_⟩
    rw [K_list, hl, List.append_assoc, List.getElem?_append_right (by omega), lt, List.getElem?_append_left (by omega), List.getElem?_eq_getElem (by omega)]
    rfl
  refine ⟨fun i j h3 h4 h5 => ?_, fun k hk => hk.elim (e1 k) (e2 k)⟩
  by_cases i1 : i < m1
  · rw [e1 i i1]
    by_cases j1 : j < m1
    · rw [e1 j j1]; exact u1 i j h3 h4 j1
    by_cases j2 : j < m2
    · obtain ⟨q, e⟩ := e3 j (by omega) j2
      rw [e]; exact c1 i h3 i1 _ (List.getElem_mem _)
    · rw [e2 j (by omega)]; exact c3 i j h3 i1 (by omega) h5
  by_cases i2 : i < m2
  · obtain ⟨q, e⟩ := e3 i (by omega) i2
    rw [e]
    by_cases j2 : j < m2
    · obtain ⟨q2, e'⟩ := e3 j (by omega) j2
      rw [e']
      by_cases eq : i = j
      · subst eq; exact Int.le_refl _
      · exact List.pairwise_iff_getElem.mp hs _ _ q q2 (by omega)
    · rw [e2 j (by omega)]; exact c2 j (by omega) h5 _ (List.getElem_mem _)
  · rw [e2 i (by omega), e2 j (by omega)]; exact u2 i j (by omega) h4 h5
theorem Up.join {xs : Array Keyed} {i m j : Nat} (h1 : Up xs i m) (h2 : Up xs m j) (c : i < m → m < j → K xs (m - 1) ≤ K xs m) : Up xs i j := fun k n q1 q2 q3 => by
  by_cases n1 : n < m
  · exact h1 k n q1 q2 n1
  by_cases k1 : k < m
  · have z1 := h1 k (m - 1) q1 (by omega) (by omega)
    have z2 := h2 m n (Nat.le_refl _) (by omega) q3
    have z3 := c (by omega) (by omega)
    omega
  · exact h2 k n (by omega) q2 q3
/-- what a merge of two runs leaves -/
def After (xs : Array Keyed) (sa e : Nat) (st' : SortSt) : Prop := Up (arrOf st') sa e ∧ ∀ k, k < sa ∨ e ≤ k → K (arrOf st') k = K xs k
theorem merged_s {xs : Array Keyed} {sa k sb nb k2 : Nat} {out : Array Keyed} {ys : Array Keyed} {q1 q2 : Keyed} (hz : sb + nb ≤ xs.size) (hk : sa + k < sb) (hk2 : k2 ≤ nb) (h1 : 1 ≤ k2) (U1 : Up xs sa sb) (U2 : Up xs sb (sb + nb))
    (e1 : xs[sb]? = some q1) (e2 : xs[sb - 1]? = some q2) (g1 : ∀ i, i < k → Ahead false q1 (K xs (sa + i))) (g4 : ∀ i, k2 ≤ i → i < nb → ¬ Ahead true q2 (K xs (sb + i)))
    (M : Mg (xs.extract (sa + k) sb) (xs.extract sb (sb + k2)) out) (hl : ys.toList = xs.toList.take (sa + k) ++ out.toList ++ xs.toList.drop (sb + k2)) :
    Up ys sa (sb + nb) ∧ ∀ i, i < sa ∨ sb + nb ≤ i → K ys i = K xs i := by
  have ho : out.size = sb + k2 - (sa + k) := by
    rw [← Array.length_toList, M.1.length_eq, List.length_append, Array.length_toList, Array.length_toList, Array.size_extract, Array.size_extract]; omega
  have mem : ∀ p, p ∈ out.toList → (∃ i, sa + k ≤ i ∧ i < sb ∧ K xs i = ks p) ∨ ∃ i, sb ≤ i ∧ i < sb + k2 ∧ K xs i = ks p := fun p hp => by
    rcases List.mem_append.mp (M.1.mem_iff.mp hp) with z | z
    · obtain ⟨i, i1, i2, _, e⟩ := ext_mem z
      exact .inl ⟨i, i1, i2, e⟩
    · obtain ⟨i, i1, i2, _, e⟩ := ext_mem z
      exact .inr ⟨i, i1, i2, e⟩
  have low : ∀ i, sa ≤ i → i < sa + k → K xs i ≤ K xs sb := fun i h3 h4 => by
    have z : K xs (sa + (i - sa)) ≤ ks q1 := g1 (i - sa) (by omega)
    rwa [show sa + (i - sa) = i by omega, ← K_at e1] at z
  have hig : ∀ j, sb + k2 ≤ j → j < sb + nb → K xs (sb - 1) ≤ K xs j := fun j h3 h4 => by
    have z : ¬ K xs (sb + (j - sb)) < ks q2 := g4 (j - sb) (by omega) (by omega)
    rw [show sb + (j - sb) = j by omega, ← K_at e2] at z
    omega
  have c1 : ∀ i, sa ≤ i → i < sa + k → ∀ p, p ∈ out.toList → K xs i ≤ ks p := fun i h3 h4 p hp => by
    rcases mem p hp with ⟨m, m1, m2, e⟩ | ⟨m, m1, m2, e⟩
    · rw [← e]; exact U1 i m h3 (by omega) m2
    · rw [← e]; exact Int.le_trans (low i h3 h4) (U2 _ _ (by omega) m1 (by omega))
  have c2 : ∀ j, sb + k2 ≤ j → j < sb + nb → ∀ p, p ∈ out.toList → ks p ≤ K xs j := fun j h3 h4 p hp => by
    rcases mem p hp with ⟨m, m1, m2, e⟩ | ⟨m, m1, m2, e⟩
    · rw [← e]; exact Int.le_trans (U1 m (sb - 1) (by omega) (by omega) (by omega)) (hig j h3 h4)
    · rw [← e]; exact U2 m j m1 (by omega) h4
  have c3 : ∀ i j, sa ≤ i → i < sa + k → sb + k2 ≤ j → j < sb + nb → K xs i ≤ K xs j := fun i j h3 h4 h5 h6 => Int.le_trans (low i h3 h4) (U2 sb j (by omega) (by omega) h6)
  obtain ⟨r1, r2⟩ := put_up (xs := xs) (ys := ys) (out := out) (sa := sa) (m1 := sa + k) (m2 := sb + k2) (e := sb + nb) hl (by omega) (by omega) ho M.2 (fun i j a b c => U1 i j a b (by omega)) (fun i j a b c => U2 i j (by omega) b c) c1 c2 c3
  exact ⟨r1, fun i hi => r2 i (by omega)⟩
theorem fit_s {xs : Array Keyed} {sa k sb nb k2 : Nat} {q1 q2 : Keyed} (hz : sb + nb ≤ xs.size) (hk : sa + k < sb) (hk2 : k2 ≤ nb) (h1 : 1 ≤ k2) (U1 : Up xs sa sb) (U2 : Up xs sb (sb + nb))
    (e1 : xs[sb]? = some q1) (e2 : xs[sb - 1]? = some q2) (g2 : ∀ i, k ≤ i → i < sb - sa → ¬ Ahead false q1 (K xs (sa + i))) (g3 : ∀ i, i < k2 → Ahead true q2 (K xs (sb + i))) :
    Fit (xs.extract (sa + k) sb) (xs.extract sb (sb + k2)) := by
  have z1 : (xs.extract (sa + k) sb).size = sb - (sa + k) := by rw [Array.size_extract]; omega
  have z2 : (xs.extract sb (sb + k2)).size = k2 := by rw [Array.size_extract]; omega
  refine ⟨fun i j a b c => ?_, fun i j a b c => ?_, fun j hj => ?_, fun j hj => ?_⟩
  · rw [z1] at c
    rw [K_ext (by omega) (by omega), K_ext (by omega) (by omega)]
    exact U1 _ _ (by omega) (by omega) (by omega)
  · rw [z2] at c
    rw [K_ext (by omega) (by omega), K_ext (by omega) (by omega)]
    exact U2 _ _ (by omega) (by omega) (by omega)
  · rw [z1] at hj
    rw [K_ext (by omega) (by omega), K_ext (by omega) (by omega), Nat.add_zero, K_at e1]
    have z : ¬ K xs (sa + (k + j)) ≤ ks q1 := g2 (k + j) (by omega) (by omega)
    rw [show sa + k + j = sa + (k + j) by omega]
    omega
  · rw [z2] at hj
    rw [z1, K_ext (by omega) (by omega), K_ext (by omega) (by omega), show sa + k + (sb - (sa + k) - 1) = sb - 1 by omega, K_at e2]
    exact Int.le_of_lt (show K xs (sb + j) < ks q2 from g3 j hj)
theorem mergeAt_s {i : Nat} {pe : Array (Nat × Nat × Nat)} {st : SortSt} {Q : Bool → SortSt → Prop} {sa na pw sb nb pw2 : Nat} (h0 : IntKeys a0) (hB : G a0 pe st) (h1 : pe[i]? = some (sa, na, pw)) (h2 : pe[i + 1]? = some (sb, nb, pw2))
    (hs : sb = sa + na) (hn1 : 1 ≤ na) (hn2 : 1 ≤ nb) (hz : sb + nb ≤ a0.size) (U1 : Up (arrOf st) sa (sa + na)) (U2 : Up (arrOf st) sb (sb + nb))
    (h : ∀ st', G a0 ((pe.setIfInBounds i (sa, na + nb, pw)).eraseIdxIfInBounds (i + 1)) st' → After (arrOf st) sa (sb + nb) st' → Q true st') : wpS (model prog w) A E s (mergeAt' i) Q st := by
  show wpS _ _ _ _ (_ >>= _) _ _
  refine wpS_bind (wpS_get ?_)
  have hpe : pendingOf st = pe := hB.2
  have hsz := hB.1.size
  have hk := hB.1.keys h0
  rw [show (sortPriv% PySem.Builtin.SortState.pending) st = pe from hB.2, h1, h2]
  dsimp only
  have hxs : arrOf st = arrOf st := rfl
  have hsz2 : ((sortPriv% PySem.Builtin.SortState.a) st).size = a0.size := hsz
  have hpa : ∀ p, (pe.setIfInBounds i (sa, na + nb, pw)).eraseIdxIfInBounds (i + 1) = p → G a0 p (setPending st p) := fun p _ => ⟨⟨hB.1.perm, hB.1.kind, hB.1.failed⟩, rfl⟩
  generalize hp : (pe.setIfInBounds i (sa, na + nb, pw)).eraseIdxIfInBounds (i + 1) = p at *
  have g1 := hpa p rfl
  refine wpS_bind (wpS_set ?_)
  refine wpS_bind (wpS_elemB hk (by omega) fun q1 hq1 kq1 => ?_)
  refine wpS_bind (gallop_s g1.1.kind kq1 hk (by omega) (by omega) U1 fun k hkn gk1 gk2 => ?_)
  dsimp only
  have hzz : sb + nb ≤ (arrOf st).size := by rw [hsz]; exact hz
  refine wpS_iteB (fun e => wpS_pure (h _ g1 ⟨?_, fun _ _ => rfl⟩)) fun ne1 => ?_
  · refine Up.join (m := sb) (by rw [hs]; exact U1) U2 fun _ _ => ?_
    have z : K (arrOf st) (sa + (na - 1)) ≤ ks q1 := gk1 (na - 1) (by omega)
    rwa [show sa + (na - 1) = sb - 1 by omega, ← K_at hq1] at z
  refine wpS_bind (wpS_elemB hk (by omega) fun q2 hq2 kq2 => ?_)
  have hq2' : (arrOf st)[sb - 1]? = some q2 := by rw [← hq2]; congr 1; omega
  refine wpS_bind (gallop_s g1.1.kind kq2 hk (by omega) (by omega) U2 fun k2 hk2 gk3 gk4 => ?_)
  dsimp only
  have fin : ∀ (out : Array Keyed) (st2 : SortSt), k2 ≠ 0 → GX a0 p (arrOf st) st2 → Mg ((arrOf st).extract (sa + k) sb) ((arrOf st).extract sb (sb + k2)) out →
      Q (failedOf (setArr st2 (out.toList.zipIdx.foldl (fun a (x : Keyed × Nat) => a.setIfInBounds (sa + k + x.2) x.1) (arrOf st2)))).isNone (setArr st2 (out.toList.zipIdx.foldl (fun a (x : Keyed × Nat) => a.setIfInBounds (sa + k + x.2) x.1) (arrOf st2))) := by
    intro out st2 ne2 g2 MM
    have p2 := MM.1
    have hf : failedOf st2 = none := g2.1.1.failed
    have hq : Q (failedOf st2).isNone (setArr st2 (out.toList.zipIdx.foldl (fun a (x : Keyed × Nat) => a.setIfInBounds (sa + k + x.2) x.1) (arrOf st2))) := by
      rw [hf]
      refine h _ ⟨⟨?_, g2.1.1.kind, g2.1.1.failed⟩, g2.1.2⟩ ?_
      case refine_2 =>
        refine merged_s (xs := arrOf st) (sa := sa) (k := k) (sb := sb) (k2 := k2) (out := out) hzz (by omega) hk2 (by omega) (by rw [hs]; exact U1) U2 hq1 hq2' gk1 gk4 MM ?_
        show (out.toList.zipIdx.foldl (fun a (x : Keyed × Nat) => a.setIfInBounds (sa + k + x.2) x.1) (arrOf st2)).toList = _
        rw [g2.2]
        have hlen : out.toList.length = sb + k2 - (sa + k) := by
          rw [p2.length_eq, List.length_append, Array.length_toList, Array.length_toList, Array.size_extract, Array.size_extract]; omega
        have e := put_at out.toList 0 (sa + k) (arrOf st) (by omega)
        rw [e, show sa + k + 0 + out.toList.length = sb + k2 by omega, Nat.add_zero]
      refine Array.Perm.trans ?_ g2.1.1.perm
      show (out.toList.zipIdx.foldl (fun a (x : Keyed × Nat) => a.setIfInBounds (sa + k + x.2) x.1) (arrOf st2)).Perm (arrOf st2)
      rw [g2.2]
      rw [Array.perm_iff_toList_perm]
      have hlen : out.toList.length = sb + k2 - (sa + k) := by
        rw [p2.length_eq, List.length_append, Array.length_toList, Array.length_toList, Array.size_extract, Array.size_extract]; omega
      have e := put_at out.toList 0 (sa + k) (arrOf st) (by omega)
      rw [e]
      rw [ext_list, ext_list] at p2
      have e2 : sa + k + 0 + out.toList.length = sb + k2 := by omega
      rw [e2, Nat.add_zero]
      exact three_perm (by omega) (by omega) p2
    exact hq
  refine wpS_iteB (fun e => wpS_pure (h _ g1 ⟨?_, fun _ _ => rfl⟩)) fun ne2 => ?_
  · refine Up.join (m := sb) (by rw [hs]; exact U1) U2 fun _ _ => ?_
    have z : ¬ K (arrOf st) (sb + 0) < ks q2 := gk4 0 (by omega) (by omega)
    rw [Nat.add_zero, ← K_at hq2'] at z
    exact Int.not_lt.mp z
  have FF : Fit ((arrOf st).extract (sa + k) sb) ((arrOf st).extract sb (sb + k2)) := fit_s (nb := nb) hzz (by omega) hk2 (by omega) (by rw [hs]; exact U1) U2 hq1 hq2' (fun i a b => gk2 i a (by omega)) gk3
  refine wpS_ite (fun _ => ?_) fun _ => ?_
  · refine wpS_bind (mergeLo_s (a0 := a0) (xs := arrOf st) ⟨g1, hxs⟩ (keys_ext hk _ _) (keys_ext hk _ _) (by rw [Array.size_extract]; omega) (by rw [Array.size_extract]; omega) FF fun out st2 g2 p2 => ?_)
    refine wpS_bind (wpS_modify (wpS_bind (wpS_get (wpS_pure ?_))))
    exact fin out st2 ne2 g2 p2
  · refine wpS_bind (mergeHi_s (a0 := a0) (xs := arrOf st) ⟨g1, hxs⟩ (keys_ext hk _ _) (keys_ext hk _ _) (by rw [Array.size_extract]; omega) (by rw [Array.size_extract]; omega) FF fun out st2 g2 p2 => ?_)
    refine wpS_bind (wpS_modify (wpS_bind (wpS_get (wpS_pure ?_))))
    exact fin out st2 ne2 g2 p2

end
end SB

set_option Elab.async false
set_option maxRecDepth 100000
set_option maxHeartbeats 4000000
namespace SB
open PySem PyProof.Rows
section
variable {prog : Program} {w : World} {A : Around} {E : Value → Shared → Prop} {s : Shared} {a0 : Array Keyed}
/-- the runs stand one behind the other, each of them sorted -/
def SU (xs : Array Keyed) : Nat → List (Nat × Nat × Nat) → Nat → Prop
  | s, [], e => s = e
  | s, (a, n, _) :: r, e => a = s ∧ 1 ≤ n ∧ Up xs s (s + n) ∧ SU xs (s + n) r e
theorem SU.le {xs : Array Keyed} : ∀ {s : Nat} {l : List (Nat × Nat × Nat)} {e : Nat}, SU xs s l e → s + l.length ≤ e
  | _, [], _, h => Nat.le_of_eq h
  | s, (_, n, _) :: r, e, h => by have := SU.le h.2.2.2; simp only [List.length_cons]; have := h.2.1; omega
theorem SU.keep {xs ys : Array Keyed} : ∀ {s : Nat} {l : List (Nat × Nat × Nat)} {e : Nat}, SU xs s l e → (∀ k, s ≤ k → k < e → K ys k = K xs k) → SU ys s l e
  | _, [], _, h, _ => h
  | s, (_, n, _) :: r, e, h, hk => by
    have q := SU.le h.2.2.2
    exact ⟨h.1, h.2.1, h.2.2.1.eqK fun k h1 h2 => hk k h1 (by omega), SU.keep h.2.2.2 fun k h1 h2 => hk k (by omega) h2⟩
theorem SU.at {xs : Array Keyed} : ∀ {s : Nat} {l : List (Nat × Nat × Nat)} {e i : Nat} {x : Nat × Nat × Nat}, SU xs s l e → l[i]? = some x → s ≤ x.1 ∧ 1 ≤ x.2.1 ∧ x.1 + x.2.1 ≤ e ∧ Up xs x.1 (x.1 + x.2.1)
  | _, [], _, _, _, _, h1 => by simp at h1
  | s, (a, n, p) :: r, e, 0, x, h, h1 => by
    simp at h1
    subst h1
    have q := SU.le h.2.2.2
    obtain ⟨rfl, h3, h4, h5⟩ := h
    exact ⟨Nat.le_refl _, h3, by show a + n ≤ e; omega, h4⟩
  | s, (a, n, p) :: r, e, i + 1, x, h, h1 => by
    obtain ⟨q1, q2, q3, q4⟩ := SU.at (i := i) (x := x) h.2.2.2 (by simpa using h1)
    exact ⟨by omega, q2, q3, q4⟩
theorem SU.two {xs ys : Array Keyed} : ∀ {s : Nat} {l : List (Nat × Nat × Nat)} {e i : Nat} {x y : Nat × Nat × Nat}, SU xs s l e → l[i]? = some x → l[i + 1]? = some y →
    y.1 = x.1 + x.2.1 ∧ (Up ys x.1 (y.1 + y.2.1) → (∀ k, k < x.1 ∨ y.1 + y.2.1 ≤ k → K ys k = K xs k) → SU ys s ((l.set i (x.1, x.2.1 + y.2.1, x.2.2)).eraseIdx (i + 1)) e)
  | _, [], _, _, _, _, _, h1, _ => by simp at h1
  | _, [_], _, 0, _, _, _, _, h2 => by simp at h2
  | s, (a, n, p) :: (b, m, q) :: r, e, 0, x, y, h, h1, h2 => by
    simp at h1 h2
    subst h1 h2
    obtain ⟨rfl, h3, h6, rfl, h4, h7, h5⟩ := h
    refine ⟨rfl, fun u hk => ?_⟩
    show SU ys a ((a, n + m, p) :: r) e
    have e1 : a + (n + m) = a + n + m := by omega
    refine ⟨rfl, by omega, ?_, ?_⟩
    · rw [e1]; exact u
    · rw [e1]; exact h5.keep fun k h1 h2 => hk k (.inr h1)
  | s, (a, n, p) :: r, e, i + 1, x, y, h, h1, h2 => by
    obtain ⟨rfl, h3, h6, h5⟩ := h
    obtain ⟨q1, q5⟩ := SU.two (ys := ys) (i := i) (x := x) (y := y) h5 (by simpa using h1) (by simpa using h2)
    have q := SU.at (i := i) (x := x) h5 (by simpa using h1)
    exact ⟨q1, fun u hk => ⟨rfl, h3, h6.eqK fun k h1 h2 => hk k (.inl (by omega)), q5 u hk⟩⟩
theorem SU.mod {xs : Array Keyed} (pw : Nat) : ∀ {s : Nat} {l : List (Nat × Nat × Nat)} {e : Nat} (i : Nat), SU xs s l e → SU xs s (l.modify i fun (st, len, _) => (st, len, pw)) e
  | _, [], _, i, h => by cases i <;> exact h
  | _, (_, _, _) :: _, _, 0, h => h
  | _, (_, _, _) :: _, _, i + 1, h => ⟨h.1, h.2.1, h.2.2.1, SU.mod pw i h.2.2.2⟩
theorem SU.snoc {xs : Array Keyed} (n p : Nat) (hn : 1 ≤ n) : ∀ {s : Nat} {l : List (Nat × Nat × Nat)} {e : Nat}, SU xs s l e → Up xs e (e + n) → SU xs s (l ++ [(e, n, p)]) (e + n)
  | s, [], e, h, u => by
    obtain rfl : s = e := h
    exact ⟨rfl, hn, u, rfl⟩
  | _, (_, _, _) :: _, _, h, u => ⟨h.1, h.2.1, h.2.2.1, SU.snoc n p hn h.2.2.2 u⟩
/-- a good state whose runs reach to e; from e on the keys are those of ys up to f -/
def GS (a0 : Array Keyed) (e : Nat) (st : SortSt) : Prop := SI a0 st ∧ SU (arrOf st) 0 (pendingOf st).toList e
theorem merge_s {i e : Nat} {st : SortSt} {Q : Bool → SortSt → Prop} (h0 : IntKeys a0) (hB : GS a0 e st) (he : e ≤ a0.size) (hi : i + 1 < (pendingOf st).size)
    (h : ∀ st', GS a0 e st' → (pendingOf st').size + 1 = (pendingOf st).size → (∀ k, e ≤ k → K (arrOf st') k = K (arrOf st) k) → Q true st') : wpS (model prog w) A E s (mergeAt' i) Q st := by
  obtain ⟨⟨sa, na, pw⟩, hx⟩ : ∃ x, (pendingOf st)[i]? = some x := ⟨_, getElem?_pos _ i (by omega)⟩
  obtain ⟨⟨sb, nb, pw2⟩, hy⟩ : ∃ x, (pendingOf st)[i + 1]? = some x := ⟨_, getElem?_pos _ (i + 1) hi⟩
  obtain ⟨x1, x2, x3, x4⟩ := hB.2.at (i := i) (x := (sa, na, pw)) (by simpa using hx)
  obtain ⟨y1, y2, y3, y4⟩ := hB.2.at (i := i + 1) (x := (sb, nb, pw2)) (by simpa using hy)
  have q1 := (hB.2.two (ys := arrOf st) (i := i) (x := (sa, na, pw)) (y := (sb, nb, pw2)) (by simpa using hx) (by simpa using hy)).1
  refine mergeAt_s h0 ⟨hB.1, rfl⟩ hx hy q1 x2 y2 (Nat.le_trans y3 he) x4 y4 fun st' g af => h st' ⟨g.1, ?_⟩ ?_ fun k hk => af.2 k (.inr (Nat.le_trans y3 hk))
  · rw [g.2, Array.toList_eraseIdxIfInBounds, Array.toList_setIfInBounds]
    exact (hB.2.two (ys := arrOf st') (i := i) (x := (sa, na, pw)) (y := (sb, nb, pw2)) (by simpa using hx) (by simpa using hy)).2 af.1 af.2
  · rw [g.2, ← Array.length_toList, Array.toList_eraseIdxIfInBounds, Array.toList_setIfInBounds, List.length_eraseIdx, if_pos (by rw [List.length_set, Array.length_toList]; omega), List.length_set, Array.length_toList]
    omega
theorem runs_s {st : SortSt} {Q : Unit → SortSt → Prop} (h0 : IntKeys a0) (hB : SI a0 st) (hp : pendingOf st = #[]) (h : ∀ st', SI a0 st' → Up (arrOf st') 0 a0.size → Q () st') : wpS (model prog w) A E s sortRuns' Q st := by
  rw [sortRuns'_eq]
  refine wpS_bind (wpS_get ?_)
  dsimp only
  rw [hB.size]
  generalize minRun' a0.size a0.size 0 = mr
  refine wpS_bind (wpS_mono (wpS_forRange (I := fun x c st' => ∃ lo, c = (none, lo) ∧ lo ≤ a0.size ∧ x ≤ lo ∧ GS a0 lo st') (Q := fun c st' => ∃ lo, c = (none, lo) ∧ lo = a0.size ∧ GS a0 lo st') ?step ?fin ⟨0, rfl, by omega, by omega, hB, by rw [hp]; rfl⟩) ?post)
  case fin => rintro c st' ⟨lo, rfl, h1, h2, g⟩; exact ⟨lo, rfl, by omega, g⟩
  case step =>
    rintro x c st1 _ hx ⟨lo, rfl, hlo, hxl, g⟩
    dsimp only
    refine wpS_ite (fun hge => wpS_pure ⟨lo, rfl, by omega, g⟩) fun hlt => ?_
    refine wpS_bind (count_s h0 (by omega) (by omega) (pe := pendingOf st1) (ys := arrOf st1) ⟨⟨g.1, rfl⟩, Low.refl _ _⟩ fun m st2 g2 hm1 hm2 hU => ?_)
    have G2 : GS a0 lo st2 := ⟨g2.1.1, by rw [g2.1.2]; exact g.2.keep fun k _ hk => g2.2 k hk⟩
    dsimp only
    refine wpS_ite (fun hmr => ?_) fun hmr => ?_
    · refine wpS_bind (wpS_lift (wpAny_rule ⟨rfl, ?_⟩))
      refine wpS_bind (bins_s h0 (by omega) (by omega) g2 hU fun st' g3 hU3 => ?_)
      have G3 : GS a0 lo st' := ⟨g3.1.1, by rw [g3.1.2]; exact g.2.keep fun k _ hk => g3.2 k hk⟩
      rw [if_neg (by decide)]
      obtain ⟨nn, hnn⟩ : ∃ nn, nn = min (a0.size - lo) mr := ⟨_, rfl⟩
      rw [← hnn]
      have hn1 : 1 ≤ nn := by omega
      have hn2 : lo + nn ≤ a0.size := by omega
      have hV : Up (arrOf st') lo (lo + nn) := by rw [hnn]; exact hU3
      refine wpS_bind (wpS_get ?_)
      have fin : ∀ st2 : SortSt, GS a0 lo st2 → Up (arrOf st2) lo (lo + nn) → GS a0 (lo + nn) (setPending st2 ((pendingOf st2).push (lo, nn, 0))) := fun st2 g2 u2 => by
        refine ⟨⟨g2.1.perm, g2.1.kind, g2.1.failed⟩, ?_⟩
        show SU (arrOf st2) 0 ((pendingOf st2).push (lo, nn, 0)).toList (lo + nn)
        rw [Array.toList_push]
        exact g2.2.snoc nn 0 hn1 u2
      cases hbk : (pendingOf st').back? with
      | none => exact wpS_bind (wpS_modify (wpS_pure ⟨_, rfl, hn2, by omega, fin _ G3 hV⟩))
      | some t =>
        obtain ⟨s1, n1, p1⟩ := t
        dsimp only
        refine wpS_bind (wpS_mono (wpS_forRange (I := fun _ c st2 => c = (none, ()) ∧ GS a0 lo st2 ∧ Up (arrOf st2) lo (lo + nn)) (Q := fun c st2 => c = (none, ()) ∧ GS a0 lo st2 ∧ Up (arrOf st2) lo (lo + nn)) ?_ ?_ ⟨rfl, G3, hV⟩) ?_)
        · rintro y c st2 _ _ ⟨rfl, g2, u2⟩
          refine wpS_bind (wpS_get ?_)
          by_cases hp1 : (pendingOf st2).size > 1
          · rw [if_pos hp1]
            obtain ⟨⟨a1, a2, older⟩, hx⟩ : ∃ x, (pendingOf st2)[(pendingOf st2).size - 2]? = some x := ⟨_, getElem?_pos _ _ (by omega)⟩
            rw [hx]
            dsimp only
            refine wpS_ite (fun _ => wpS_pure ⟨rfl, g2, u2⟩) fun _ => ?_
            refine wpS_bind (merge_s h0 g2 hlo (by omega) fun st3 g3 _ k3 => ?_)
            exact wpS_pure ⟨rfl, g3, u2.eqK fun k h1 _ => k3 k h1⟩
          · rw [if_neg hp1]
            exact wpS_pure ⟨rfl, g2, u2⟩
        · rintro c st2 z; exact z
        · rintro c st2 ⟨rfl, g2, u2⟩
          refine wpS_bind (wpS_modify (wpS_bind (wpS_modify (wpS_pure ⟨_, rfl, hn2, by omega, fin _ ⟨⟨g2.1.perm, g2.1.kind, g2.1.failed⟩, ?_⟩ u2⟩))))
          show SU (arrOf st2) 0 ((pendingOf st2).modify _ _).toList lo
          rw [Array.toList_modify]
          exact g2.2.mod _ _
    · obtain ⟨nn, hnn⟩ : ∃ nn, nn = m := ⟨_, rfl⟩
      rw [← hnn]
      have hn1 : 1 ≤ nn := by omega
      have hn2 : lo + nn ≤ a0.size := by omega
      obtain ⟨st', hst'⟩ : ∃ st', st' = st2 := ⟨_, rfl⟩
      rw [← hst'] at G2 ⊢
      have hV : Up (arrOf st') lo (lo + nn) := by rw [hnn, hst']; exact hU
      refine wpS_bind (wpS_get ?_)
      have fin : ∀ st2 : SortSt, GS a0 lo st2 → Up (arrOf st2) lo (lo + nn) → GS a0 (lo + nn) (setPending st2 ((pendingOf st2).push (lo, nn, 0))) := fun st2 g2 u2 => by
        refine ⟨⟨g2.1.perm, g2.1.kind, g2.1.failed⟩, ?_⟩
        show SU (arrOf st2) 0 ((pendingOf st2).push (lo, nn, 0)).toList (lo + nn)
        rw [Array.toList_push]
        exact g2.2.snoc nn 0 hn1 u2
      cases hbk : (pendingOf st').back? with
      | none => exact wpS_bind (wpS_modify (wpS_pure ⟨_, rfl, hn2, by omega, fin _ G2 hV⟩))
      | some t =>
        obtain ⟨s1, n1, p1⟩ := t
        dsimp only
        refine wpS_bind (wpS_mono (wpS_forRange (I := fun _ c st2 => c = (none, ()) ∧ GS a0 lo st2 ∧ Up (arrOf st2) lo (lo + nn)) (Q := fun c st2 => c = (none, ()) ∧ GS a0 lo st2 ∧ Up (arrOf st2) lo (lo + nn)) ?_ ?_ ⟨rfl, G2, hV⟩) ?_)
        · rintro y c st2 _ _ ⟨rfl, g2, u2⟩
          refine wpS_bind (wpS_get ?_)
          by_cases hp1 : (pendingOf st2).size > 1
          · rw [if_pos hp1]
            obtain ⟨⟨a1, a2, older⟩, hx⟩ : ∃ x, (pendingOf st2)[(pendingOf st2).size - 2]? = some x := ⟨_, getElem?_pos _ _ (by omega)⟩
            rw [hx]
            dsimp only
            refine wpS_ite (fun _ => wpS_pure ⟨rfl, g2, u2⟩) fun _ => ?_
            refine wpS_bind (merge_s h0 g2 hlo (by omega) fun st3 g3 _ k3 => ?_)
            exact wpS_pure ⟨rfl, g3, u2.eqK fun k h1 _ => k3 k h1⟩
          · rw [if_neg hp1]
            exact wpS_pure ⟨rfl, g2, u2⟩
        · rintro c st2 z; exact z
        · rintro c st2 ⟨rfl, g2, u2⟩
          refine wpS_bind (wpS_modify (wpS_bind (wpS_modify (wpS_pure ⟨_, rfl, hn2, by omega, fin _ ⟨⟨g2.1.perm, g2.1.kind, g2.1.failed⟩, ?_⟩ u2⟩))))
          show SU (arrOf st2) 0 ((pendingOf st2).modify _ _).toList lo
          rw [Array.toList_modify]
          exact g2.2.mod _ _
  case post =>
    rintro c st1 ⟨lo, rfl, hlo, g⟩
    have hlo' := hlo
    have hln : (pendingOf st1).size ≤ a0.size := by have := g.2.le; rw [Array.length_toList] at this; omega
    dsimp only
    refine wpS_bind (wpS_mono (wpS_forRange (I := fun x c st2 => c = (none, ()) ∧ GS a0 lo st2 ∧ (pendingOf st2).size + x ≤ a0.size + 1) (Q := fun c st2 => c = (none, ()) ∧ GS a0 lo st2 ∧ (pendingOf st2).size ≤ 1) ?_ ?_ ⟨rfl, g, by omega⟩) ?_)
    · rintro y c st2 _ _ ⟨rfl, g2, n2⟩
      refine wpS_bind (wpS_get ?_)
      refine wpS_ite (fun h1 => wpS_pure ⟨rfl, g2, h1⟩) fun hsz => ?_
      refine wpS_bind (merge_s h0 g2 (by omega) (ite_lt2 (by omega) (by omega)) fun st3 g3 e3 _ => ?_)
      exact wpS_pure ⟨rfl, g3, by omega⟩
    · rintro c st2 ⟨rfl, g2, n2⟩; exact ⟨rfl, g2, by omega⟩
    · rintro c st2 ⟨rfl, g2, n2⟩
      refine wpS_pure (h _ g2.1 ?_)
      have q := g2.2
      rw [← Array.length_toList] at n2
      rw [← hlo]
      match hl : (pendingOf st2).toList with
      | [] =>
        rw [hl] at q
        obtain rfl : 0 = lo := q
        exact fun k m h1 h2 h3 => by omega
      | [(x, n, p)] =>
        rw [hl] at q
        obtain ⟨rfl, h3, h4, h5⟩ := q
        obtain rfl : 0 + n = lo := h5
        exact h4
      | _ :: _ :: _ =>
        rw [hl] at n2
        simp only [List.length_cons] at n2
        omega

theorem sort_s {a : Addr} {vs : List Value} {ns : List Int} {n : Nat} {P : PySem.Fin → Shared → Prop} (ho : s.heap.get? a = some (seqObj "list" vs.toArray n))
    (hI : IntsAre vs ns) (h64 : vs.length ≤ 1000)
    (h : ∀ (out : Array Value) (ns' : List Int), IntsAre out.toList ns' → ns'.Perm ns → ns'.Pairwise (· ≤ ·) → P (.done (.ret .none)) { s with heap := sortedHeap s.heap a vs out }) :
    wpAny (model prog w) A (Builtin.«list.sort» ⟨[.ref a], []⟩) P E s := by
  rw [list_sort_plain]
  have ha : a < s.heap.objs.size := Heap.lt_size ho
  refine wpAny_bind (listItems_at ho rfl ?_)
  refine wpAny_bind (listUpdate_at ho rfl ?_ (by rw [sizeLine_eq]; simp; omega) (by simp))
  obtain ⟨e1, ho1⟩ : ∃ e1, (s.heap.update a (Obj.mapSeq fun _ => #[])).get? a = some (seqObj "list" #[] e1) := ⟨_, get?_update_seq ho (fun _ => #[])⟩
  refine wpAny_bind (seqEpoch_at ho1 rfl ?_)
  refine wpAny_bind (wpAny_newTuple ?_ (by rw [sizeLine_eq]; simp; omega))
  refine wpAny_bind (wpAny_newList ?_)
  refine wpAny_holding ?_
  have ho6 : (((s.heap.update a (Obj.mapSeq fun _ => #[])).push (seqObj "tuple" vs.toArray 0)).push (seqObj "list" #[] 0)).get? a = some (seqObj "list" #[] e1) := by
    rw [Heap.get?_push_ne _ _ _ (by rw [size_push', Heap.size_update]; exact Nat.ne_of_lt (Nat.lt_succ_of_lt ha)), Heap.get?_push_ne _ _ _ (by rw [Heap.size_update]; exact Nat.ne_of_lt ha)]
    exact ho1
  show wpAny (model prog w) A _ P E { s with heap := ((s.heap.update a (Obj.mapSeq fun _ => #[])).push (seqObj "tuple" vs.toArray 0)).push (seqObj "list" #[] 0) }
  dsimp only
  have hsz : vs.toArray.size = vs.length := by simp
  have fin : ∀ st' : SortSt, (arrOf st').Perm (pairsOf vs) → Up (arrOf st') 0 (pairsOf vs).size → P (.done (.ret .none)) { s with heap := sortedHeap s.heap a vs ((arrOf st').map (·.2)) } := by
    intro st' hp hu
    obtain ⟨ns', h1, h2, h3⟩ := sorted_out hI hp fun i j q1 q2 => hu i j (Nat.zero_le _) q1 q2
    exact h _ ns' h1 h2 h3
  by_cases h2 : vs.toArray.size < 2
  · rw [if_pos h2, if_pos h2]
    refine wpAny_bind (wpAny_pure ?_)
    rw [StateT.run_pure]
    refine wpAny_bind (wpAny_pure ?_)
    dsimp only
    refine wpAny_bind (seqEpoch_at ho6 rfl ?_)
    refine wpAny_bind (listUpdate_at ho6 rfl ?_ (hsz2 := by rw [Array.size_map]; show (pairsOf vs).size ≤ _; rw [pairsOf_size, sizeLine_eq]; omega))
    simp only [bne_self_eq_false, Bool.false_eq_true, if_false]
    exact wpAny_pure (fin (SortSt.mk' general' (vs.toArray.zip vs.toArray) #[] 7 none) (Array.Perm.refl _) fun i j _ q1 q2 => by
      rw [pairsOf_size] at q2
      obtain rfl : i = j := by omega
      exact Int.le_refl _)
  · rw [if_neg h2, if_neg h2]
    obtain ⟨v₁, v₂, rest, rfl⟩ : ∃ v₁ v₂ rest, vs = v₁ :: v₂ :: rest := by
      match vs, hsz, h2 with
      | [], _, h2 => simp at h2
      | [_], _, h2 => simp at h2
      | v₁ :: v₂ :: rest, _, _ => exact ⟨v₁, v₂, rest, rfl⟩
    rw [keyKind_ints hI]
    refine wpAny_bind (wpAny_pure ?_)
    refine wpAny_bind (wpAny_mono (runs_s (a0 := pairsOf (v₁ :: v₂ :: rest)) (st := SortSt.mk' oneType' ((v₁ :: v₂ :: rest).toArray.zip (v₁ :: v₂ :: rest).toArray) #[] 7 none)
      (Q := fun _ st' => SI (pairsOf (v₁ :: v₂ :: rest)) st' ∧ Up (arrOf st') 0 (pairsOf (v₁ :: v₂ :: rest)).size)
      hI.intKeys ⟨Array.Perm.refl _, rfl, rfl⟩ rfl fun st' a1 a2 => ⟨a1, a2⟩) ?_ fun _ _ e => e)
    rintro ⟨⟨⟩, st'⟩ s' ⟨rfl, hS, hS2⟩
    have hp := hS.perm
    have hf := hS.failed
    dsimp only
    refine wpAny_bind (seqEpoch_at ho6 rfl ?_)
    refine wpAny_bind (listUpdate_at ho6 rfl ?_ (hsz2 := by refine Nat.le_trans (Nat.le_of_eq ((Array.size_map ..).trans (hp.size_eq.trans (pairsOf_size _)))) ?_; rw [sizeLine_eq]; omega))
    rw [hf]
    simp only [bne_self_eq_false, Bool.false_eq_true, if_false]
    exact wpAny_pure (fin st' hp hS2)
theorem sorted_s {l : Addr} {vs : List Value} {ns : List Int} {Q : Value → Shared → Prop} (hl : s.heap.IsList l vs.toArray) (hI : IntsAre vs ns) (h64 : vs.length ≤ 1000)
    (h : ∀ (out : Array Value) (ns' : List Int), IntsAre out.toList ns' → ns'.Perm ns → ns'.Pairwise (· ≤ ·) → Q (.ref (s.heap.objs.size + 1)) { s with heap := sortedAll s.heap vs out }) :
    wpAny (model prog w) A (call (.builtin "sorted") [.ref l]) Q E s := by
  refine Calls.call_function_entry kind_sorted plain_sorted entry_sorted (args_sorted1 _) ?_
  unfold Builtin.«sorted»
  refine wpAny_bind (m := checkCount "sorted" 1 1 _) (wpAny_pure ?_)
  refine wpAny_bind (collect_list hl ?_ (by rw [sizeLine_eq]; omega))
  refine wpAny_bind (wpAny_newList ?_ (by rw [sizeLine_eq]; omega))
  have hsz : ((s.heap.push (seqObj "list" #[] 0)).update s.heap.objs.size (Obj.mapSeq (· ++ vs.toArray))).objs.size = s.heap.objs.size + 1 := by
    rw [Heap.size_update, size_push']
  have hoL : (((s.heap.push (seqObj "list" #[] 0)).update s.heap.objs.size (Obj.mapSeq (· ++ vs.toArray))).push (seqObj "list" vs.toArray 0)).get? (s.heap.objs.size + 1) = some (seqObj "list" vs.toArray 0) := by
    rw [← hsz]; exact Heap.get?_push_size _ rfl
  show wpAny _ _ _ _ _ { s with heap := ((s.heap.push (seqObj "list" #[] 0)).update s.heap.objs.size (Obj.mapSeq (· ++ vs.toArray))).push (seqObj "list" vs.toArray 0) }
  rw [hsz]
  refine wpAny_bind (wpAny_holding (wpAny_call_entry slot_list_sort ⟨_, hoL, rfl⟩ entry_list_sort (sort_s hoL hI h64 fun out ns' a1 a2 a3 => ⟨_, rfl, ?_⟩) (args_list_sort _)))
  exact wpAny_pure ⟨_, rfl, h out ns' a1 a2 a3⟩
end
end SB

set_option Elab.async false
set_option maxRecDepth 100000
set_option maxHeartbeats 4000000
namespace L2
open PySem PySem.Spec PyProof.Rows
section
variable {X : Cx}
/-! ### floor division by a number that is not too great -/
theorem log2_small {y : Int} (h0 : 0 < y) (h : y < 2 ^ 200) : y.natAbs.log2 < 9000 := by
  have h1 : y.natAbs ≠ 0 := by omega
  have h2 : y.natAbs.log2 < 200 := (Nat.log2_lt h1).mpr (by omega)
  omega
theorem op_fdivL : OpR X (binaryOp .FloorDiv) (rI (fun _ j => 0 < j ∧ j < 2 ^ 200) fun i j => .int (i / j)) := opI fun i j _ _ _ _ _ hc q => by
  refine floordiv_int (by omega) ?_ (.inl (PyProof.noPylong_of_log2 (log2_small hc.1 hc.2)))
  rw [Int.fdiv_eq_ediv_of_nonneg i (by omega)]
  exact q
/-! ### sum, max, min, sorted of a list of ints -/
theorem call_sum (hc : X.calm = true) : CallR X (.builtin "sum") (fun xs H Q => ∃ (p : Addr) (ns : List Int), xs = [.ref p] ∧ SqL X.K H p (ns.map V.int) ∧ Q (.int ns.sum) H) := by
  intro pins s σ H xs us Q I r h
  obtain ⟨p, ns, rfl, hq, q⟩ := h
  obtain ⟨u, rfl, rx⟩ := vals1 r
  cases rx
  obtain ⟨its, r', pl, hz⟩ := I.list hq
  have hi := intsAre_of r'
  obtain ⟨xs, e⟩ := hi.allInts.items
  have hns : ns = xs.toList.map (·.1) := by rw [← hi.numsOf, ← nums_intItems, ← e]
  have hl := pl.isList
  rw [e] at hl
  refine sum_intListG (I.ok.hd hc) hl fun h' tk t' hk => ⟨.int ns.sum, H, I.kept hk, ⟨t', ?_⟩, q⟩
  rw [preSum_eq, List.take_of_length_le (by simp), hns]
theorem call_max (hc : X.calm = true) : CallR X (.builtin "max") (fun xs H Q => ∃ (p : Addr) (ns : List Int), xs = [.ref p] ∧ SqL X.K H p (ns.map V.int) ∧ ns ≠ [] ∧ ∀ M, M ∈ ns → (∀ a, a ∈ ns → a ≤ M) → Q (.int M) H) := by
  intro pins s σ H xs us Q I r h
  obtain ⟨p, ns, rfl, hq, hne, q⟩ := h
  obtain ⟨u, rfl, rx⟩ := vals1 r
  cases rx
  obtain ⟨its, r', pl, hz⟩ := I.list hq
  have hi := intsAre_of r'
  obtain ⟨xs, e⟩ := hi.allInts.items
  have hns : ns = xs.toList.map (·.1) := by rw [← hi.numsOf, ← nums_intItems, ← e]
  have hl := pl.isList
  rw [e] at hl
  have hsz : 0 < xs.size := by
    have h3 := List.length_pos_iff.mpr hne; rw [hns, List.length_map, Array.length_toList] at h3; exact h3
  refine max_intList (I.ok.hd hc) hl hsz fun v h' tk hv hk => ?_
  obtain ⟨t, rfl⟩ := intItems_at hv
  obtain ⟨h1, h2⟩ := argBest_gt (numAt xs) (xs.size - 1)
  refine ⟨.int _, H, I.kept hk, ⟨t, rfl⟩, q _ ?_ fun a ha => ?_⟩
  · rw [hns, numAt_eq]; exact getD_mem (by rw [List.length_map, Array.length_toList]; omega)
  · rw [hns] at ha
    obtain ⟨j, hj, rfl⟩ := mem_getD ha
    rw [List.length_map, Array.length_toList] at hj
    rw [← numAt_eq]; exact h2 j (by omega)
theorem call_min (hc : X.calm = true) : CallR X (.builtin "min") (fun xs H Q => ∃ (p : Addr) (ns : List Int), xs = [.ref p] ∧ SqL X.K H p (ns.map V.int) ∧ ns ≠ [] ∧ ∀ M, M ∈ ns → (∀ a, a ∈ ns → M ≤ a) → Q (.int M) H) := by
  intro pins s σ H xs us Q I r h
  obtain ⟨p, ns, rfl, hq, hne, q⟩ := h
  obtain ⟨u, rfl, rx⟩ := vals1 r
  cases rx
  obtain ⟨its, r', pl, hz⟩ := I.list hq
  have hi := intsAre_of r'
  obtain ⟨xs, e⟩ := hi.allInts.items
  have hns : ns = xs.toList.map (·.1) := by rw [← hi.numsOf, ← nums_intItems, ← e]
  have hl := pl.isList
  rw [e] at hl
  have hsz : 0 < xs.size := by
    have h3 := List.length_pos_iff.mpr hne; rw [hns, List.length_map, Array.length_toList] at h3; exact h3
  refine min_intList (I.ok.hd hc) hl hsz fun v h' tk hv hk => ?_
  obtain ⟨t, rfl⟩ := intItems_at hv
  obtain ⟨h1, h2⟩ := argBest_lt (numAt xs) (xs.size - 1)
  refine ⟨.int _, H, I.kept hk, ⟨t, rfl⟩, q _ ?_ fun a ha => ?_⟩
  · rw [hns, numAt_eq]; exact getD_mem (by rw [List.length_map, Array.length_toList]; omega)
  · rw [hns] at ha
    obtain ⟨j, hj, rfl⟩ := mem_getD ha
    rw [List.length_map, Array.length_toList] at hj
    rw [← numAt_eq]; exact h2 j (by omega)
theorem call_sorted : CallR X (.builtin "sorted") (fun xs H Q => ∃ (p : Addr) (ns : List Int), xs = [.ref p] ∧ SqL X.K H p (ns.map V.int) ∧ ns.length ≤ 1000 ∧ ∀ (l : Addr) (ns' : List Int), H l = none → ns'.Perm ns → ns'.Pairwise (· ≤ ·) → Q (.ref l) (upd H l (.lst (ns'.map V.int)))) := by
  intro pins s σ H xs us Q I r h
  obtain ⟨p, ns, rfl, hq, hle, q⟩ := h
  obtain ⟨u, rfl, rx⟩ := vals1 r
  cases rx
  obtain ⟨its, r', pl, hz⟩ := I.list hq
  have hi := intsAre_of r'
  have hlen := r'.length
  rw [List.length_map] at hlen
  refine SB.sorted_s pl.isList hi (by omega) fun out ns' a1 a2 a3 => ?_
  obtain ⟨e, he⟩ := sortedAll_at s.heap its out
  have hn : H (s.heap.objs.size + 1) = none := I.hok.fresh (Nat.le_succ _)
  refine ⟨.ref (s.heap.objs.size + 1), _, ?_, rfl, q _ ns' hn a2 a3⟩
  refine I.laid (t' := s.toks) (fun _ _ => sortedAll_old) (Nat.le_succ _) (show ObjOk X.prog X.w _ _ _ (.lst _) from ⟨?_, out.toList, e, vals_ints a1, he⟩)
  rw [List.length_map, a2.length_eq, sizeLine_eq]; omega
/-! ### repr -/
/-- what a value reads as, n deep -/
def RV : Nat → Hp → V → PyData → Prop
  | _, _, .non, d => d = .none
  | _, _, .bl b, d => d = .bool b
  | _, _, .int i, d => d = .int i
  | _, _, .str x, d => d = .str x
  | n + 1, H, .ref a, d => (∃ xs ds, Rd H a (.lst xs) ∧ d = .list ds ∧ Paired (RV n H) xs ds) ∨ ∃ xs ds, Rd H a (.tup xs) ∧ d = .tuple ds ∧ Paired (RV n H) xs ds
  | _, _, _, _ => False
/-- a thing whose repr may be asked -/
structure Shw (d : PyData) : Prop where
  sh : d.showable = true
  nd : d.hasDict = false
  dp : d.depth ≤ 30
  sz : d.shown.length ≤ sizeLine
end
end L2

set_option Elab.async false
set_option maxRecDepth 100000
set_option maxHeartbeats 4000000
namespace L2
open PySem PySem.Spec PyProof.Rows
/-! ### comprehensions -/
/-- the context of a comprehension's block: s0, H0 the state with the new list laid, C its names, fp the iterator's records -/
abbrev cxComp (X : Cx) (pins : List (Addr × Obj)) (N' : List Str) (scope : Scope) (cl : List (Str × Addr)) (C : Addr) (s0 : Shared) (H0 : Hp) (fp : List Addr) : Cx :=
  { X with N := N', s₀ := s0, H₀ := H0, env := compEnvC scope cl C X.env, outer := X.stack, ex := fp, fn := fun _ => false, pn := X.pn ++ pins, xe := fun _ _ => False }
theorem find_names {k : NameKind} : ∀ {names : List (Str × NameKind)} {x : Str}, names.lookup x = some k → (x, k) ∈ names
  | (n, j) :: r, x, h => by
    rw [List.lookup_cons] at h
    cases e : x == n with
    | true =>
      rw [e] at h
      cases h
      rw [eq_of_beq e]
      exact List.mem_cons_self
    | false =>
      rw [e] at h
      exact List.mem_cons_of_mem _ (find_names h)
/-- the cells that a block takes along -/
structure Clo (scope : Scope) (env : Env) (cl : List (Str × Addr)) : Prop where
  eq : closureFor scope env = pure cl
  sub : ∀ x c, cl.lookup x = some c → env.cells.lookup x = some c
  has : ∀ x, (x, NameKind.free) ∈ scope.names → ∃ c, cl.lookup x = some c
theorem clo_go {env : Env} : ∀ (names : List (Str × NameKind)) (acc : List (Str × Addr)), (∀ x, (x, NameKind.free) ∈ names → ∃ c, env.cells.lookup x = some c) → (∀ x c, acc.lookup x = some c → env.cells.lookup x = some c) →
    ∃ cl, (forIn names acc fun (y : Str × NameKind) cs => (if y.2 == NameKind.free then do let c ← cellOf env y.1; pure (ForInStep.yield ((y.1, c) :: cs)) else pure (ForInStep.yield cs) : Sem (ForInStep (List (Str × Addr))))) = pure cl ∧
      (∀ x c, cl.lookup x = some c → env.cells.lookup x = some c) ∧ (∀ x, (x, NameKind.free) ∈ names → ∃ c, cl.lookup x = some c) ∧ ∀ x, (∃ c, acc.lookup x = some c) → ∃ c, cl.lookup x = some c
  | [], acc, _, hs => ⟨acc, rfl, hs, fun _ h => by simp at h, fun _ h => h⟩
  | (n, k) :: r, acc, hh, hs => by
    by_cases hk : k = NameKind.free
    · subst hk
      obtain ⟨c, hc⟩ := hh n List.mem_cons_self
      obtain ⟨cl, e, h1, h2, h3⟩ := clo_go r ((n, c) :: acc) (fun x hx => hh x (List.mem_cons_of_mem _ hx)) (fun x c' hx => by
        rw [List.lookup_cons] at hx
        cases en : x == n with
        | true => rw [en] at hx; cases hx; rw [eq_of_beq en]; exact hc
        | false => rw [en] at hx; exact hs x c' hx)
      refine ⟨cl, ?_, h1, fun x hx => ?_, fun x ⟨c', hx⟩ => ?_⟩
      · rw [List.forIn_cons]
        have ec : cellOf env n = pure c := by unfold cellOf; rw [hc]
        simp only [beq_self_eq_true, if_true, ec, pure_bind]
        exact e
      · rcases List.mem_cons.mp hx with hx | hx
        · cases hx
          exact h3 n ⟨c, by rw [List.lookup_cons]; simp⟩
        · exact h2 x hx
      · refine h3 x ?_
        cases en : x == n with
        | true => exact ⟨c, by rw [List.lookup_cons, en]⟩
        | false => exact ⟨c', by rw [List.lookup_cons, en]; exact hx⟩
    · obtain ⟨cl, e, h1, h2, h3⟩ := clo_go r acc (fun x hx => hh x (List.mem_cons_of_mem _ hx)) hs
      refine ⟨cl, ?_, h1, fun x hx => ?_, h3⟩
      · rw [List.forIn_cons]
        have hb : (k == NameKind.free) = false := by simpa using hk
        simp only [hb, Bool.false_eq_true, if_false, pure_bind]
        exact e
      · rcases List.mem_cons.mp hx with hx | hx
        · cases hx; exact absurd rfl hk
        · exact h2 x hx
theorem clo_mk {scope : Scope} {env : Env} (h : ∀ x, (x, NameKind.free) ∈ scope.names → ∃ c, env.cells.lookup x = some c) : ∃ cl, Clo scope env cl := by
  obtain ⟨cl, e, h1, h2, _⟩ := clo_go (env := env) scope.names [] h (fun x c hx => by simp at hx)
  exact ⟨cl, by unfold closureFor; exact (by simpa using e), h1, h2⟩
/-- which slot of the outer names a block's slot takes: all checks on the text -/
def capOk (N' : List Str) (caps : List (Option Nat)) (N : List Str) (names names' : List (Str × NameKind)) : Bool :=
  (N'.length == caps.length) && (N'.zip caps).all (fun p => match p.2 with
    | none => true
    | some j => N[j]? == some p.1 && names'.lookup p.1 == some .free) &&
  names'.all (fun p => p.2 != NameKind.cell && (p.2 != NameKind.free || names.lookup p.1 == some .cell || names.lookup p.1 == some .free) && (p.2 != NameKind.local || names'.lookup p.1 == some .local))
def capSt (caps : List (Option Nat)) (σ : St) : St := caps.map fun o => match o with
  | none => none
  | some j => (σ[j]?).join
theorem relabel_free {env : Env} : ∀ {names : List (Str × NameKind)} {x : Str}, names.lookup x = some .free →
    (names.map fun (n, k) => if (k == NameKind.free && env.scope.kind == .function && env.kindOf n == some .cell) then (n, NameKind.cell) else (n, k)).lookup x = some .cell ∨
    (names.map fun (n, k) => if (k == NameKind.free && env.scope.kind == .function && env.kindOf n == some .cell) then (n, NameKind.cell) else (n, k)).lookup x = some .free
  | (n, k) :: r, x, h => by
    have ih := @relabel_free env r x
    show List.lookup x ((if (k == NameKind.free && env.scope.kind == .function && env.kindOf n == some .cell) = true then (n, NameKind.cell) else (n, k)) :: _) = _ ∨
      List.lookup x ((if (k == NameKind.free && env.scope.kind == .function && env.kindOf n == some .cell) = true then (n, NameKind.cell) else (n, k)) :: _) = _
    cases hx : x == n with
    | true =>
      simp only [List.lookup_cons, hx] at h
      cases h
      by_cases hc : (NameKind.free == NameKind.free && env.scope.kind == .function && env.kindOf n == some .cell) = true
      · rw [if_pos hc]; simp [List.lookup_cons, hx]
      · rw [if_neg hc]; simp [List.lookup_cons, hx]
    | false =>
      simp only [List.lookup_cons, hx] at h
      by_cases hc : (k == NameKind.free && env.scope.kind == .function && env.kindOf n == some .cell) = true
      · rw [if_pos hc]; simp only [List.lookup_cons, hx]; exact ih h
      · rw [if_neg hc]; simp only [List.lookup_cons, hx]; exact ih h
theorem relabel_back {env : Env} : ∀ {names : List (Str × NameKind)} {x : Str}, (∀ p ∈ names, p.2 ≠ .cell) →
    ((names.map fun (n, k) => if (k == NameKind.free && env.scope.kind == .function && env.kindOf n == some .cell) then (n, NameKind.cell) else (n, k)).lookup x = some .cell ∨
     (names.map fun (n, k) => if (k == NameKind.free && env.scope.kind == .function && env.kindOf n == some .cell) then (n, NameKind.cell) else (n, k)).lookup x = some .free) → (x, NameKind.free) ∈ names
  | [], x, _, h => by simp at h
  | (n, k) :: r, x, hc0, h => by
    have ih := @relabel_back env r x (fun p hp => hc0 p (List.mem_cons_of_mem _ hp))
    have hk0 : k ≠ .cell := hc0 (n, k) List.mem_cons_self
    rw [List.map_cons] at h
    generalize (r.map fun (x : Str × NameKind) => match x with | (n, k) => if (k == NameKind.free && env.scope.kind == ScopeKind.function && env.kindOf n == some NameKind.cell) = true then (n, NameKind.cell) else (n, k)) = R at h ih
    dsimp only at h
    by_cases hc : (k == NameKind.free && env.scope.kind == .function && env.kindOf n == some .cell) = true
    · rw [if_pos hc] at h
      cases hx : x == n with
      | true =>
        have hkf : k = .free := by
          rw [Bool.and_eq_true, Bool.and_eq_true] at hc
          exact eq_of_beq hc.1.1
        rw [eq_of_beq hx, hkf]; exact List.mem_cons_self
      | false =>
        rw [List.lookup_cons, hx] at h
        exact List.mem_cons_of_mem _ (ih h)
    · rw [if_neg hc] at h
      cases hx : x == n with
      | true =>
        rw [List.lookup_cons, hx] at h
        rcases h with h | h
        · exact absurd (Option.some.inj h) hk0
        · rw [eq_of_beq hx, Option.some.inj h]; exact List.mem_cons_self
      | false =>
        rw [List.lookup_cons, hx] at h
        exact List.mem_cons_of_mem _ (ih h)
section
variable {X : Cx} {pins : List (Addr × Obj)} {σ : St} {H : Hp} {s : Shared}
/-- at a block's entry -/
theorem comp_start {N' : List Str} {caps : List (Option Nat)} {scope : Scope} {cl : List (Str × Addr)} {fp : List Addr} {h1 : Heap} {tk : Nat} (I : Inv X pins σ H s) (hfp : ∀ b ∈ fp, FpOk X pins H b) (hfo : ∀ b ∈ fp, ∃ o, s.heap.get? b = some o)
    (hcap : capOk N' caps X.N X.env.scope.names scope.names = true) (hkind : scope.kind = .function) (hC : Clo scope X.env cl)
    (hns : h1.Ns (s.heap.objs.size + 1) fun _ => none) (hsb : Heap.SameBut (s.heap.objs.size + 1) ((s.heap.push { cls := .type "list", data := .seq #[] }).push { cls := .type "dict", data := .dict #[] }) h1) :
    Inv (cxComp X pins N' scope cl (s.heap.objs.size + 1) { s with heap := s.heap.push { cls := .type "list", data := .seq #[] } } (upd H s.heap.objs.size (.lst [])) fp) [] (capSt caps σ) (upd H s.heap.objs.size (.lst [])) { s with heap := h1, toks := tk } := by
  have hn : H s.heap.objs.size = none := I.hok.fresh (Nat.le_refl _)
  have hz : (s.heap.push { cls := .type "list", data := .seq #[] }).objs.size = s.heap.objs.size + 1 := Heap.size_push ..
  have up1 : ∀ b o, s.heap.get? b = some o → (s.heap.push { cls := .type "list", data := .seq #[] }).get? b = some o := fun b o e => Heap.get?_push_of_some _ e
  have up2 : ∀ b o, (s.heap.push { cls := .type "list", data := .seq #[] }).get? b = some o → h1.get? b = some o := fun b o e => by
    have hb : b < s.heap.objs.size + 1 := by rw [← hz]; exact Heap.lt_size e
    exact hsb.extBut b o (Nat.ne_of_lt hb) (Heap.get?_push_of_some _ e)
  have I1 : Inv X pins σ (upd H s.heap.objs.size (.lst [])) { s with heap := s.heap.push { cls := .type "list", data := .seq #[] }, toks := s.toks } :=
    I.laid (t' := s.toks) up1 (Nat.le_refl _) (show ObjOk X.prog X.w _ _ _ (.lst []) from ⟨Nat.zero_le _, [], 0, .nil, Heap.get?_push_size _ rfl⟩)
  obtain ⟨hcap1, hcap3⟩ := Bool.and_eq_true_iff.mp hcap
  obtain ⟨hcap1, hcap2⟩ := Bool.and_eq_true_iff.mp hcap1
  have hlen : N'.length = caps.length := by simpa using hcap1
  have hcap3' := List.all_eq_true.mp hcap3
  have nocell : ∀ p ∈ scope.names, p.2 ≠ NameKind.cell := fun p hp => by
    have := hcap3' p hp
    simp only [Bool.and_eq_true, bne_iff_ne] at this
    exact this.1.1
  have hsub := I.stkSub
  have ltS : ∀ b o, s.heap.get? b = some o → b < s.heap.objs.size := fun b o e => Heap.lt_size e
  refine ⟨⟨I.ok.mod, hkind, I.ok.glob, I.ok.blt, Nat.le_of_eq hz, fun x y c e1 e2 => I.ok.inj x y c (hC.sub x c e1) (hC.sub y c e2), fun x hx => ?_, fun x c hf => absurd (show false = true from hf) Bool.false_ne_true, I.ok.hd, I.ok.frames, .inl rfl, fun b hb => ?_, fun b o e => ?_, ?_, fun b o e hb => ?_, fun b hb hf => ?_, ?_, fun b hb => ?_⟩,
    rfl, I.bare, Un.kept up2, ⟨_, hns, fun i x v e1 e2 e3 => ?_⟩, fun x c e => ?_, ?_, fun x c e => ?_, fun p hp => ?_, I1.hok.kept up2, ?_⟩
  · exact hC.has x (relabel_back nocell hx)
  · obtain ⟨o, ho⟩ := hfo b hb
    obtain ⟨f0, f1, f2, f3, f4, f5⟩ := hfp b hb
    exact ⟨Nat.ne_of_lt (Nat.lt_succ_of_lt (ltS b o ho)), fun x c e => f4 x c (hC.sub x c e)⟩
  · have q := I1.bs b o e
    exact q
  · show X.base.objs.size ≤ (s.heap.push _).objs.size
    rw [hz]
    exact Nat.le_trans (Nat.le_trans I.ok.bsz I.sz) (Nat.le_succ _)
  · obtain ⟨f0, f1, f2, f3, f4, f5⟩ := hfp b hb
    rcases f3 with f3 | f3
    · exact I.ok.noex b o e f3
    · exact absurd (Nat.lt_of_lt_of_le (Heap.lt_size e) (Nat.le_trans I.ok.bsz f3)) (Nat.lt_irrefl _)
  · obtain ⟨f0, f1, f2, f3, f4, f5⟩ := hfp b hb
    rcases List.mem_cons.mp (hsub b hf) with z | z
    · exact f1 z
    · exact f2 z
  · exact I1.stack
  · exact I1.stkFree b hb
  · -- the captured names
    have e2' : ∃ o, caps[i]? = some o ∧ (match o with | none => none | some j => (σ[j]?).join) = some v := by
      unfold capSt at e2
      rw [List.getElem?_map] at e2
      cases q : caps[i]? with
      | none => rw [q] at e2; cases e2
      | some o => rw [q] at e2; exact ⟨o, rfl, Option.some.inj e2⟩
    obtain ⟨o, ho, hv⟩ := e2'
    cases o with
    | none => cases hv
    | some j =>
      have hv' : (σ[j]?).join = some v := hv
      have hσ : σ[j]? = some (some v) := by
        cases q : σ[j]? with
        | none => rw [q] at hv'; cases hv'
        | some w => rw [q] at hv'; rw [show w = some v from hv']
      have hzip : (x, some j) ∈ N'.zip caps := by
        refine List.mem_iff_getElem?.mpr ⟨i, ?_⟩
        rw [List.getElem?_zip_eq_some]
        exact ⟨e1, ho⟩
      have q := List.all_eq_true.mp hcap2 _ hzip
      simp only [Bool.and_eq_true, beq_iff_eq] at q
      obtain ⟨q1, q2⟩ := q
      have q3 := hcap3' _ (find_names q2)
      have q4 : X.env.scope.names.lookup x = some .cell ∨ X.env.scope.names.lookup x = some .free := by
        simp only [bne_self_eq_false, Bool.false_or, Bool.and_eq_true, Bool.or_eq_true, beq_iff_eq] at q3
        exact q3.1.2
      obtain ⟨m, _, hl⟩ := I.loc
      obtain ⟨u, ru, lk⟩ := hl j x v q1 hσ (.inr q4)
      refine ⟨u, ru, .inr ⟨relabel_free q2, ?_⟩⟩
      have q5 : X.env.kindOf x = some .cell ∨ X.env.kindOf x = some .free := q4
      rcases lk with ⟨k, _⟩ | ⟨_, c, ec, hc⟩
      · rcases q5 with q5 | q5 <;> (rw [q5] at k; cases k)
      · obtain ⟨c', ec'⟩ := hC.has x (find_names q2)
        have := hC.sub x c' ec'
        rw [ec] at this
        cases this
        obtain ⟨oc, hoc, hdc⟩ := hc
        exact ⟨c, ec', oc, up2 _ _ (up1 _ _ hoc), hdc⟩
  · obtain ⟨v, oc, hoc, hdc⟩ := I.cell x c (hC.sub x c e)
    exact ⟨v, oc, up2 _ _ (up1 _ _ hoc), hdc⟩
  · show upd H _ _ (s.heap.objs.size + 1) = none
    rw [upd_ne (Nat.ne_of_gt (Nat.lt_succ_self _))]
    exact I.hok.fresh (Nat.le_succ _)
  · exact I1.freeC x c (hC.sub x c e)
  · have hp' : p ∈ X.pn ++ pins := by simpa using hp
    obtain ⟨a1, a2, a3, a4, a5⟩ := I1.pin p hp'
    obtain ⟨b1, _, _, _, _⟩ := I.pin p hp'
    refine ⟨up2 _ _ a1, a2, Nat.ne_of_lt (Nat.lt_succ_of_lt (ltS _ _ b1)), fun hf => ?_, a5⟩
    rcases List.mem_cons.mp (hsub p.1 hf) with z | z
    · exact a3 z
    · exact a4 z
  · show (capSt caps σ).length = N'.length
    unfold capSt
    rw [List.length_map, hlen]
/-- behind a block: the outer context again -/
theorem comp_back {N' : List Str} {scope : Scope} {cl : List (Str × Addr)} {fp : List Addr} {C : Addr} {pins' : List (Addr × Obj)} {σ' : St} {H' : Hp} {s' : Shared} (I : Inv X pins σ H s) (hfp : ∀ b ∈ fp, FpOk X pins H b)
    (J : Inv (cxComp X pins N' scope cl C { s with heap := s.heap.push { cls := .type "list", data := .seq #[] } } (upd H s.heap.objs.size (.lst [])) fp) pins' σ' H' s') : Inv X pins σ H' s' := by
  have hn : H s.heap.objs.size = none := I.hok.fresh (Nat.le_refl _)
  refine I.call' (ch := fp) J.os ?_ J.hok J.bare fun b hb => ?_
  · exact (Un.laid (fun b o e => Heap.get?_push_of_some _ e) (Nat.le_refl _) hn).trans J.base
  · obtain ⟨f0, f1, f2, f3, f4, f5⟩ := hfp b hb
    exact ⟨f3, f1, f4, f5⟩
end
end L2
namespace L2
open PySem PySem.Spec PyProof.Rows
/-- the tests of a comprehension -/
def PIfs (X : Cx) (ifs : List Expr) (t : TT) : Prop :=
  ∀ (pins : List (Addr × Obj)) (s : Shared) (σ : St) (H : Hp) (Q : Bool → Hp → Prop), Inv X pins σ H s → t σ H Q →
    wpAny (model X.prog X.w) X.A (forIn ifs true fun c r => if r = true then do let ok ← isTrue c X.env (eval c X.env); pure (ForInStep.yield ok) else pure (ForInStep.yield r)) (TP X pins σ Q) X.xe s
def tYes : TT := fun _ H Q => Q true H
theorem pifs_nil {X : Cx} : PIfs X [] tYes := fun _ _ _ H _ I h => wpAny_tests_nil ⟨H, I, h⟩
/-- a turn of a comprehension, from an iterator on -/
def compRead (J : It) (D : Addr) (g : TG) (tt : TT) (te : TE) (σ0 : St) (H0 : Hp) (Q : Hp → Prop) : Prop :=
  ∃ W : Nat → Nat → St → Hp → Prop, (∃ m, W 0 m σ0 H0) ∧ ∀ i m σ' H', W i m σ' H' →
    (J.stop i H' ∧ Q H') ∨ (J.go i H' ∧ ∃ N : St → Hp → Prop, (∀ σ' H', N σ' H' → ∃ m', m' < m ∧ W (i + 1) m' σ' H') ∧ ∀ x H2, J.yld i H' x H2 → g x σ' H2 fun σ2 H3 => tt σ2 H3 fun b H4 =>
      if b = true then te σ2 H4 fun v H5 => ∃ ys, H5 D = some (.lst ys) ∧ ys.length < sizeLine ∧ N σ2 (upd H5 D (.lst (ys ++ [v]))) else N σ2 H4)
/-- a list comprehension: the new list at D -/
def tComp (caps : List (Option Nat)) (wi : TI) (g : TG) (tt : TT) (te : TE) : TE := fun σ H Q => wi σ H fun J H1 => ∀ D, H1 D = none → compRead J D g tt te (capSt caps σ) (upd H1 D (.lst [])) fun H2 => Q (.ref D) H2
section
variable {X : Cx} {tg elt iter : Expr} {ifs : List Expr} {scope : Scope} {pos : Pos}
theorem comp_loop {X' : Cx} {fp : List Addr} {it D : Addr} {tn : Nat → Heap → Prop} {J : It} {g : TG} {tt : TT} {te : TE} {σ0 : St} {H0 : Hp} {s : Shared} {R : Result → Shared → Prop} {Qe : Hp → Prop} (hc : X'.calm = true) (hxe : X'.xe = fun _ _ => False)
    (T : Turn X'.prog X'.w X'.K tg J fp it tn) (hg : PG X' tg g) (ht : PIfs X' ifs tt) (he : PE X' elt te) (I : Inv X' [] σ0 H0 s) (hf : ∀ b ∈ fp, FpOk X' [] H0 b) (st : tn 0 s.heap) (q : compRead J D g tt te σ0 H0 Qe)
    (hR : ∀ s' σ' H', Inv X' [] σ' H' s' → Qe H' → R (.ok .next) s') :
    codeAny (model X'.prog X'.w) X'.A (.compLoop (.ListComp elt [⟨tg, iter, ifs, 0⟩] scope pos) 0 (.ref it) (.ref D) X'.env) R s := by
  obtain ⟨W, ⟨m0, w0⟩, turn⟩ := q
  have stat : ∀ {H' : Hp}, (∀ b ∈ fp, H' b = none) → ∀ b ∈ fp, FpOk X' [] H' b := fun hn b hb => ⟨hn b hb, (hf b hb).2⟩
  refine codeAny_loop rfl (fun n s' => ∃ i σ' H', Inv X' [] σ' H' s' ∧ tn i s'.heap ∧ (∀ b ∈ fp, H' b = none) ∧ W i n σ' H') ?_ m0 ⟨0, σ0, H0, I, st, fun b hb => (hf b hb).1, w0⟩
  rintro n s3 ⟨i, σ3, H3, I3, st3, fr3, w3⟩
  show wpAny _ X'.A ((compTurn (.ListComp elt [⟨tg, iter, ifs, 0⟩] scope pos) 0 (.ref it) (.ref D) X'.env).onRaise (fun x => do noteFrame x X'.env; theTreesLotGoes x)) _ _ s3
  refine wpAny_noted ?_
  rw [compTurn_list]
  have no : ∀ {α : Type} {t : Sem α} {Q : α → Shared → Prop} {s' : Shared} {E' : Value → Shared → Prop}, wpAny (model X'.prog X'.w) X'.A t Q X'.xe s' → wpAny (model X'.prog X'.w) X'.A t Q E' s' := fun h => wpAny_mono h (fun _ _ x => x) fun _ _ x => by rw [hxe] at x; exact x.elim
  refine wpAny_bind (wpAny_standAt ?_)
  rcases turn i n σ3 H3 w3 with ⟨stop, qn⟩ | ⟨go, N, hN, step⟩
  · refine wpAny_bind (thn (T.done X' rfl rfl rfl hc i [] s3 σ3 H3 _ I3 (stat fr3) st3 stop) fun r s4 ⟨hr, I4⟩ => ?_)
    subst hr
    exact wpAny_pure (hR _ _ _ I4 qn)
  · refine wpAny_bind (thn (T.item X' rfl rfl rfl hc i [] s3 σ3 H3 _ I3 (stat fr3) st3 go) fun r s4 ⟨u, hr, h4⟩ => ?_)
    subst hr
    refine wpAny_bind (thn h4 fun _ s5 ⟨x, H5, I5, r5, y5, st5, fr5⟩ => ?_)
    have I5' := I5.pinned (stat fr5) (T.obj _ _ st5)
    have again : ∀ {σ7 : St} {H7 : Hp} {s7 : Shared}, Inv X' ([] ++ pinsAt fp s5.heap) σ7 H7 s7 → N σ7 H7 → ∃ m, m < n ∧ ∃ i σ' H', Inv X' [] σ' H' s7 ∧ tn i s7.heap ∧ (∀ b ∈ fp, H' b = none) ∧ W i m σ' H' := fun {σ7 H7 s7} I7 n7 => by
      obtain ⟨m', hm, w7⟩ := hN σ7 H7 n7
      refine ⟨m', hm, i + 1, σ7, H7, I7.unpinned, T.keep _ _ _ st5 fun b hb o e => (I7.pin (b, o) (List.mem_append_right _ (List.mem_append_right _ (mem_pinsAt hb e)))).1, fun b hb => ?_, w7⟩
      obtain ⟨o, e, d⟩ := T.obj _ _ st5 b hb
      exact (I7.pin (b, o) (List.mem_append_right _ (List.mem_append_right _ (mem_pinsAt hb e)))).2.1
    refine wpAny_bind (thn (no (hg _ s5 σ3 H5 x u _ I5' r5 (step x H5 y5))) fun _ s6 ⟨σ6, H6, I6, q6⟩ => ?_)
    refine wpAny_bind (thn (no (ht _ s6 σ6 H6 _ I6 q6)) fun b s7 ⟨H7, I7, q7⟩ => ?_)
    cases b with
    | false => exact wpAny_pure ⟨rfl, again I7 q7⟩
    | true =>
      refine wpAny_bind (wpAny_bind (thn (no (he _ s7 σ6 H7 _ I7 q7)) fun v s8 ⟨y, H8, I8, r8, q8⟩ => ?_))
      obtain ⟨ys, hD, hsz, q8⟩ := q8
      refine wpAny_bind (thn (no (mt_append (X := X') _ s8 σ6 H8 (.ref D) [y] (Value.ref D) [v] (fun _ H9 => N σ6 H9) I8 rfl (.cons r8 .nil) ⟨D, ys, y, rfl, rfl, hD, hsz, q8⟩)) fun _ s9 ⟨z, H9, I9, _, q9⟩ => ?_)
      exact wpAny_pure (wpAny_pure ⟨rfl, again I9 q9⟩)
theorem vis_free {N' : List Str} {caps : List (Option Nat)} {N : List Str} {names names' : List (Str × NameKind)} (h : capOk N' caps N names names' = true) : (∀ p ∈ names', p.2 ≠ NameKind.cell) ∧ (∀ x, (x, NameKind.free) ∈ names' → names.lookup x = some .cell ∨ names.lookup x = some .free) ∧ ∀ p ∈ names', p.2 = .local → names'.lookup p.1 = some .local := by
  have h3 := List.all_eq_true.mp (Bool.and_eq_true_iff.mp h).2
  refine ⟨fun p hp => ?_, fun x hx => ?_, fun p hp hl => ?_⟩
  · have := h3 p hp
    simp only [Bool.and_eq_true, bne_iff_ne] at this
    exact this.1.1
  · have := h3 _ hx
    simp only [bne_self_eq_false, Bool.false_or, Bool.and_eq_true, Bool.or_eq_true, beq_iff_eq] at this
    exact this.1.2
  · have := h3 p hp
    rw [hl] at this
    simp only [bne_self_eq_false, Bool.false_or, Bool.and_eq_true, beq_iff_eq] at this
    exact this.2
/-- the block, from the iterator on -/
theorem comp_block {N' : List Str} {caps : List (Option Nat)} {pins : List (Addr × Obj)} {σ : St} {H : Hp} {s : Shared} {J : It} {fp : List Addr} {it : Addr} {tn : Nat → Heap → Prop} {g : TG} {tt : TT} {te : TE} {cl : List (Str × Addr)} {RR : Value → Addr → Result → Shared → Prop} {Qe : Addr → Hp → Prop}
    (hc : X.calm = true) (hcap : capOk N' caps X.N X.env.scope.names scope.names = true) (hkind : scope.kind = .function) (hC : Clo scope X.env cl)
    (hg : ∀ C s0 H0 fp, PG (cxComp X pins N' scope cl C s0 H0 fp) tg g) (ht : ∀ C s0 H0 fp, PIfs (cxComp X pins N' scope cl C s0 H0 fp) ifs tt) (he : ∀ C s0 H0 fp, PE (cxComp X pins N' scope cl C s0 H0 fp) elt te)
    (I : Inv X pins σ H s) (T : Turn X.prog X.w X.K tg J fp it tn) (st : tn 0 s.heap) (hf : ∀ b ∈ fp, FpOk X pins H b) (q : ∀ D, H D = none → compRead J D g tt te (capSt caps σ) (upd H D (.lst [])) (Qe D))
    (hR : ∀ (D C : Addr) (s' : Shared) (H' : Hp), Inv X pins σ H' s' → Qe D H' → D ≠ C → (∃ o m, s'.heap.get? C = some o ∧ (∀ v, o.data ≠ .cell v) ∧ (∀ h2 : Heap, h2.get? C = some o → h2.Ns C m)) → H' C = none → s.heap.objs.size ≤ C → RR (.ref D) C (.ok .next) s') :
    wpAny (model X.prog X.w) X.A (newList []) (fun acc s₃ => wpAny (model X.prog X.w) X.A (newFunctionEnv scope X.env.globals cl [] X.env.qual none .none (some X.env)) (fun cenv s₄ =>
      codeAny (model X.prog X.w) X.A (.compStart (.ListComp elt [⟨tg, iter, ifs, 0⟩] scope pos) 0 (.ref it) acc { cenv with scope := relabel scope X.env }) (RR acc cenv.locals) s₄) X.xe s₃) X.xe s := by
  refine wpAny_newObj_type (wpAny_newFunctionEnv (vis_free hcap).1 (by intro y hy; simp at hy) (fun h₁ hns₁ hsb₁ => ?_) hkind)
  have hz : (s.heap.push { cls := .type "list", data := .seq #[] }).objs.size = s.heap.objs.size + 1 := Heap.size_push ..
  have hns : h₁.Ns (s.heap.objs.size + 1) fun _ => none := by rw [← hz]; exact hns₁
  have hsb : Heap.SameBut (s.heap.objs.size + 1) ((s.heap.push { cls := .type "list", data := .seq #[] }).push { cls := .type "dict", data := .dict #[] }) h₁ := by rw [← hz]; exact hsb₁
  have hfo : ∀ b ∈ fp, ∃ o, s.heap.get? b = some o := fun b hb => let ⟨o, e, _⟩ := T.obj 0 _ st b hb; ⟨o, e⟩
  have I1 := comp_start (tk := s.toks + ([] : List (Str × Value)).length) I hf hfo hcap hkind hC hns hsb
  have hn : H s.heap.objs.size = none := I.hok.fresh (Nat.le_refl _)
  have up : ∀ b o, s.heap.get? b = some o → h₁.get? b = some o := fun b o e =>
    hsb.extBut b o (Nat.ne_of_lt (Nat.lt_succ_of_lt (Heap.lt_size e))) (Heap.get?_push_of_some _ (Heap.get?_push_of_some _ e))
  have st1 : tn 0 h₁ := T.keep _ _ _ st fun b _ o e => up b o e
  have f1 : ∀ b ∈ fp, FpOk (cxComp X pins N' scope cl (s.heap.objs.size + 1) { s with heap := s.heap.push { cls := .type "list", data := .seq #[] } } (upd H s.heap.objs.size (.lst [])) fp) [] (upd H s.heap.objs.size (.lst [])) b := fun b hb => by
    obtain ⟨a0, a1, a2, a3, a4, a5⟩ := hf b hb
    obtain ⟨o, ho⟩ := hfo b hb
    have hlt := Heap.lt_size ho
    refine ⟨by rw [upd_ne (Nat.ne_of_lt hlt)]; exact a0, Nat.ne_of_lt (Nat.lt_succ_of_lt hlt), fun z => ?_, .inl hb, fun x c e => a4 x c (hC.sub x c e), fun p hp => a5 p (by simpa using hp)⟩
    rcases List.mem_cons.mp (I.stkSub b z) with z | z
    · exact a1 z
    · exact a2 z
  have loop : codeAny (model X.prog X.w) X.A (.compLoop (.ListComp elt [⟨tg, iter, ifs, 0⟩] scope pos) 0 (.ref it) (.ref s.heap.objs.size) (compEnvC scope cl (s.heap.objs.size + 1) X.env))
      (RR (.ref s.heap.objs.size) (s.heap.objs.size + 1)) { s with heap := h₁, toks := s.toks + ([] : List (Str × Value)).length } := by
    refine comp_loop (X' := cxComp X pins N' scope cl (s.heap.objs.size + 1) { s with heap := s.heap.push { cls := .type "list", data := .seq #[] } } (upd H s.heap.objs.size (.lst [])) fp) hc rfl T (hg _ _ _ _) (ht _ _ _ _) (he _ _ _ _) I1 f1 st1 (q _ hn) fun s' σ' H' J' qe => ?_
    have B := comp_back I hf J'
    obtain ⟨m, hnC, _⟩ := J'.loc
    obtain ⟨o, es, ep, ho, hd, r⟩ := id hnC
    exact hR _ _ s' H' B qe (Nat.ne_of_lt (Nat.lt_succ_self _)) ⟨o, m, ho, (fun v z => by rw [hd] at z; cases z), fun h2 e2 => ⟨o, es, ep, e2, hd, r⟩⟩ J'.free (Nat.le_succ _)
  have fin := codeAny_compStart_list loop (T.self _ _ _ _ _ st1 loop)
  have hz2 : (s.heap.push { cls := .type "list", dict := none, data := .seq ([] : List Value).toArray }).objs.size = s.heap.objs.size + 1 := hz
  show codeAny _ _ (.compStart _ 0 _ _ { (newEnv scope (s.heap.push { cls := .type "list", dict := none, data := .seq ([] : List Value).toArray }).objs.size X.env.globals cl X.env.qual none .none (some X.env) _) with scope := relabel scope X.env }) (RR _ (s.heap.push { cls := .type "list", dict := none, data := .seq ([] : List Value).toArray }).objs.size) _
  rw [hz2]
  exact fin
theorem clo_of {N' : List Str} {caps : List (Option Nat)} {pins : List (Addr × Obj)} {σ : St} {H : Hp} {s : Shared} (I : Inv X pins σ H s) (hcap : capOk N' caps X.N X.env.scope.names scope.names = true) : ∃ cl, Clo scope X.env cl :=
  clo_mk fun x hx => I.ok.has x ((vis_free hcap).2.1 x hx)
/-- [elt for tg in iter if ..] -/
theorem pe_comp (N' : List Str) (caps : List (Option Nat)) {wi : TI} {g : TG} {tt : TT} {te : TE} (hc : X.calm = true) (hi : PI X tg iter wi)
    (hg : ∀ pins cl C s0 H0 fp, PG (cxComp X pins N' scope cl C s0 H0 fp) tg g) (ht : ∀ pins cl C s0 H0 fp, PIfs (cxComp X pins N' scope cl C s0 H0 fp) ifs tt) (he : ∀ pins cl C s0 H0 fp, PE (cxComp X pins N' scope cl C s0 H0 fp) elt te)
    (hcap : capOk N' caps X.N X.env.scope.names scope.names = true := by rfl) (hkind : scope.kind = .function := by rfl) (hs : ∀ x, foldedSetIterable iter X.env x = pure x := by intro _; rfl) :
    PE X (.ListComp elt [⟨tg, iter, ifs, 0⟩] scope pos) (tComp caps wi g tt te) := by
  intro pins s σ H Q I h
  obtain ⟨cl, hC⟩ := clo_of I hcap
  rw [eval_ListComp]
  refine wpAny_comprehension_free (use := none) rfl hs hC.eq hkind (vis_free hcap).2.2 (thn (hi pins s σ H _ I h) fun v s1 h1 => thn h1 fun itv s2 h2 => ?_)
  obtain ⟨it, fp, tn, J, H2, e, I2, T, st2, f2, q2⟩ := h2
  subst e
  refine comp_block (RR := fun acc C => compPost (model X.prog X.w) X.A X.xe none (EP X pins σ Q) acc C) (Qe := fun D H' => Q (.ref D) H') hc hcap hkind hC (hg pins cl) (ht pins cl) (he pins cl) I2 T st2 f2 q2 fun D C s' H' I' q' hDC hCo hCn hCs => ?_
  obtain ⟨o, m, ho, hd, hns⟩ := hCo
  refine ⟨m, hns _ ho, fun h' hsb => ⟨.ref D, H', ?_, rfl, q'⟩⟩
  obtain ⟨hp', g', d', t', os'⟩ := s'
  have hC0 : X.s₀.heap.objs.size ≤ C := Nat.le_trans I2.sz hCs
  exact I'.turned (t' := t') (it := C) (fun b o hb e => hsb.extBut b o hb e) hCn (fun z => by
    have := I2.lt; rw [← z] at this; exact absurd (Nat.lt_of_lt_of_le this hCs) (Nat.lt_irrefl _)) (.inr hC0) (fun x c e z => by
    obtain ⟨v, q⟩ := I2.cell x c e
    exact absurd (Nat.lt_of_lt_of_le q.lt (by rw [z]; exact hCs)) (Nat.lt_irrefl _)) (fun p hp z => by
    exact absurd (Nat.lt_of_lt_of_le (Heap.lt_size (I2.pin p hp).1) (by rw [z]; exact hCs)) (Nat.lt_irrefl _))
end
end L2

set_option Elab.async false
set_option maxRecDepth 100000
set_option maxHeartbeats 4000000
namespace L2
open PySem PySem.Spec PyProof.Rows
section
variable {X : Cx}
/-! ### isinstance against a builtin type -/
def isTy (t : String) (c : String) : Bool := t == c || (t == "bool" && c == "int")
theorem kit_ty {K : PySem.W.Frag} (t c : String) (ht : t ∈ ["NoneType", "bool", "int", "str", "list", "tuple", "dict"]) (hc : c ∈ ["bool", "int", "str", "list", "tuple", "dict"]) : PySem.W.kitOne K (.type t) (.type c) = some (isTy t c) := by
  simp only [List.mem_cons, List.not_mem_nil, or_false] at ht hc
  rcases ht with rfl | rfl | rfl | rfl | rfl | rfl | rfl <;> rcases hc with rfl | rfl | rfl | rfl | rfl | rfl <;> rfl
theorem call_isinstance : CallR X (.builtin "isinstance") (fun xs H Q => ∃ x t c, xs = [x, .ty c] ∧ TyOf X.K H x (.type t) ∧ t ∈ ["NoneType", "bool", "int", "str", "list", "tuple", "dict"] ∧ c ∈ ["bool", "int", "str", "list", "tuple", "dict"] ∧ Q (.bl (isTy t c)) H) := by
  intro pins s σ H xs us Q I r h
  obtain ⟨x, t, c, rfl, ty, ht, hc, q⟩ := h
  obtain ⟨u, w', rfl, rx, ry⟩ := vals2 r
  cases ry
  exact isinst_ok I rx ty (kit_ty t c ht hc) fun tk => ⟨.bl _, H, I.tok tk, rfl, q⟩
/-- a type's own name as a value -/
theorem pe_tyn {x : Str} {T : String} {pos : Pos} (hg : Gl X x) (hm : X.mg x = none) (hv : bootBuiltins x = some (.type T)) (hn : x ≠ "__name__" := by decide) (hd : (x == ("__debug__" : Str)) = false := by decide) : PE X (.Name x pos) (tC (.ty T)) :=
  pe_bltn hg hm hv rfl hn hd
/-! ### two lists of ints compared -/
end
end L2
namespace L2
open PySem PySem.Spec PyProof.Rows
section
variable {X : Cx}
theorem all_range_eq : ∀ (ns ms : List Int), ns.length = ms.length → ((List.range ns.length).all fun j => decide (ns.getD j 0 = ms.getD j 0)) = decide (ns = ms) := by
  intro ns ms hl
  by_cases h : ns = ms
  · subst h; simp
  · rw [decide_eq_false h]
    cases hc : ((List.range ns.length).all fun j => decide (ns.getD j 0 = ms.getD j 0)) with
    | false => rfl
    | true =>
      exfalso
      apply h
      rw [List.all_eq_true] at hc
      apply List.ext_getElem hl
      intro i h1 h2
      have := hc i (List.mem_range.mpr h1)
      have e := of_decide_eq_true this
      rw [List.getD_eq_getElem?_getD, List.getD_eq_getElem?_getD, List.getElem?_eq_getElem h1, List.getElem?_eq_getElem h2] at e
      exact e
theorem ints_at {ns : List Int} : ∀ {us : List Value}, IntsAre us ns → ∀ (j : Nat) (h : j < us.toArray.size), ∃ t, us.toArray[j] = .int (ns.getD j 0) t := by
  induction ns with
  | nil => intro us h j hj; cases h; simp at hj
  | cons n ns ih =>
    intro us h j hj
    cases h with
    | cons _ t h =>
      cases j with
      | zero => exact ⟨t, by simp⟩
      | succ j =>
        obtain ⟨t', e⟩ := ih h j (by simpa using hj)
        exact ⟨t', by simpa using e⟩
/-- == of two lists of ints -/
def rEqI (K : PySem.W.Frag) (neg : Bool) : R2 := fun x y H Q => ∃ (p q : Addr) (ns ms : List Int), x = .ref p ∧ y = .ref q ∧ SqL K H p (ns.map V.int) ∧ SqL K H q (ms.map V.int) ∧ Q (.bl (if neg then !decide (ns = ms) else decide (ns = ms))) H
theorem op_eqI {k : Nat} (hr : Room k X.A) : OpR X (compareOp .Eq) (rEqI X.K false) := by
  intro pins s σ H x y v u Q I rx ry h
  obtain ⟨p, q, ns, ms, rfl, rfl, h1, h2, qq⟩ := h
  cases rx; cases ry
  obtain ⟨its, r1, p1, _⟩ := I.list h1
  obtain ⟨its2, r2, p2, _⟩ := I.list h2
  have i1 := intsAre_of r1
  have i2 := intsAre_of r2
  have l1 := r1.length
  have l2 := r2.length
  rw [List.length_map] at l1 l2
  by_cases hl : ns.length = ms.length
  · refine SeqAt.eq_listAt (e := fun j => decide (ns.getD j 0 = ms.getD j 0)) p1.isList p2.isList (by simp only [List.size_toArray]; omega) hr.units0 (fun j a1 a2 => ?_) ?_
    · obtain ⟨t1, e1⟩ := ints_at i1 j a1
      obtain ⟨t2, e2⟩ := ints_at i2 j a2
      rw [e1, e2]
      have := SeqAt.EqAt.int_int (A := X.A.in1) (s := s) (ns.getD j 0) t1 (ms.getD j 0) t2
      rw [Bool.beq_eq_decide_eq] at this
      exact this
    · rw [show its.toArray.size = ns.length by simp only [List.size_toArray]; omega, all_range_eq ns ms hl]
      exact ⟨.bl _, H, I, rfl, qq⟩
  · refine SeqAt.eq_list_lengthsAt p1.isList p2.isList (by simp only [List.size_toArray, bne_iff_ne]; omega) hr.units0 ⟨.bl false, H, I, rfl, ?_⟩
    have : decide (ns = ms) = false := decide_eq_false fun e => hl (by rw [e])
    rw [this] at qq
    exact qq
/-! ### range by -1 -/
/-- hi, hi - 1, .. (n of them) -/
def Itd (hi : Int) (n : Nat) : It := ⟨fun i _ => i < n, fun i H x H' => H' = H ∧ x = .int (hi - i), fun i _ => n ≤ i⟩
theorem turn_down {P : Program} {w : World} {K : PySem.W.Frag} {tg : Expr} (it : Addr) (hi : Int) (n : Nat) : Turn P w K tg (Itd hi n) [it] it (fun i h => IsRangeIter h it (hi + (i : Nat) * -1) ((n : Int) - (i : Nat)) (-1)) where
  mem := by simp
  obj := fun i h st b hb => by
    have e : b = it := by simpa using hb
    subst e
    exact ⟨_, st, fun v z => by
      have z' : Data.fields _ = Data.cell v := z
      cases z'⟩
  keep := fun i h h' st k => k it (by simp) _ st
  item := by
    intro X hP hw hK hc i pins s σ H E I hf st hg
    subst hP hw hK
    obtain ⟨f0, f1, f2, f3, f4, f5⟩ := hf it (by simp)
    have W := Walks.range (prog := X.prog) (w := X.w) (I.ok.hd hc) it hi (-1) n
    refine W.item i s _ _ hg st fun v h' tk hv st' kk => ?_
    obtain ⟨t, rfl⟩ := hv
    have I1 : Inv X pins σ H { s with heap := h', toks := tk } := I.turned (fun b o hb e => kk b o (by simpa using hb) e) f0 f1 f3 f4 f5
    refine ⟨_, rfl, go_of (s := { s with heap := h', toks := tk }) (n := "range_iterator") st' rfl rfl (by decide) ⟨.int (hi - i), H, I1, ⟨t, ?_⟩, ⟨rfl, rfl⟩, st', fun b hb => (hf b hb).1⟩⟩
    congr 1; omega
  done := by
    intro X hP hw hK hc i pins s σ H E I hf st hg
    subst hP hw hK
    obtain ⟨f0, f1, f2, f3, f4, f5⟩ := hf it (by simp)
    exact wpAny_pyNext_range_end (I.ok.hd hc) st (by have : n ≤ i := hg; omega) fun h' eb => ⟨rfl, I.turned (t' := s.toks) (fun b o hb e => eb b o hb e) f0 f1 f3 f4 f5⟩
  self := fun _ _ _ _ _ st h => wpAny_pyIter_rangeiter st h
theorem rangeSize_down (a b : Int) : Builtin.Range.rangeSize a b (-1) = if b < a then a - b else 0 := by
  unfold Builtin.Range.rangeSize
  simp only [show ¬ ((-1 : Int) > 0) by decide, if_false]
  rw [show (- -1 : Int) = 1 by decide, Int.ediv_one]
  split <;> omega
theorem small_down {a b : Int} (ha : -(2 ^ 61) ≤ a) (ha' : a < 2 ^ 61) (hb : -(2 ^ 61) ≤ b) (hb' : b < 2 ^ 61) : Builtin.Range.small a b (-1) = true := by
  unfold Builtin.Range.small
  rw [rangeSize_down]
  simp only [Builtin.Range.rangeFitsLong, Bool.and_eq_true, Bool.or_eq_true, decide_eq_true_eq, beq_iff_eq, show ¬ ((-1 : Int) > 0) by decide, if_false]
  split <;> omega
def iRngD (ta : TA) : TI := fun σ H R => ta σ H fun vs H1 => ∃ i j : Int, vs = [.int i, .int j, .int (-1)] ∧ (-(2 ^ 61) ≤ i ∧ i < 2 ^ 61 ∧ -(2 ^ 61) ≤ j ∧ j < 2 ^ 61) ∧ R (Itd i (i - j).toNat) H1
theorem pi_down {tg a b c : Expr} {ta : TA} {p pos : Pos} (hg : Gl X "range") (hm : X.mg "range" = none) (ha : PA X [a, b, c] ta) (hs : starEach [a, b, c] X.env = [(false, eval a X.env), (false, eval b X.env), (false, eval c X.env)] := by rfl) (hs2 : starEach [b, c] X.env = [(false, eval b X.env), (false, eval c X.env)] := by rfl) :
    PI X tg (.Call (.Name "range" p) [a, b, c] [] pos) (iRngD ta) := by
  intro pins s σ H R I h
  refine Call_ (ld_blt I hg hm boot_range (PyProof.Rows.callWith_type1 (thn (ha pos pins s σ H _ I h) fun us s1 ⟨vs, H1, I1, r1, q1⟩ => ?_) (by rw [hs, hs2]) (by rw [hs2]; rfl)))
  obtain ⟨i, j, e, ⟨q1, q2, q3, q4⟩, q⟩ := q1
  subst e
  cases r1 with
  | cons r rr =>
    cases rr with
    | cons r' rr =>
      cases rr with
      | cons r'' rr =>
        cases rr
        obtain ⟨t, rfl⟩ := r
        obtain ⟨t', rfl⟩ := r'
        obtain ⟨t'', rfl⟩ := r''
        refine call_range_3 (by decide) ?_ (.inl (PyProof.noPylong_small (by decide)))
        refine wpAny_pyIter_range (IsRange.new ..) (small_down q1 q2 q3 q4) ?_
        have I2 : Inv X pins σ H1 { s1 with heap := s1.heap.push { cls := .type "range", data := .fields #[.int i t, .int j t', .int (-1) t''] }, toks := s1.toks } := I1.kept fun b o e => Heap.get?_push_of_some _ e
        refine ⟨(s1.heap.push { cls := .type "range", data := .fields #[.int i t, .int j t', .int (-1) t''] }).objs.size, [(s1.heap.push { cls := .type "range", data := .fields #[.int i t, .int j t', .int (-1) t''] }).objs.size], _, _, H1, rfl,
          I2.kept (t' := s1.toks) fun b o e => Heap.get?_push_of_some _ e, turn_down _ i (i - j).toNat, ?_, fun b hb => ?_, q⟩
        · have e1 : i + ((0 : Nat) : Int) * -1 = i := by simp
          have e2 : (((i - j).toNat : Nat) : Int) - ((0 : Nat) : Int) = Builtin.Range.rangeSize i j (-1) := by rw [rangeSize_down]; split <;> omega
          show IsRangeIter _ _ (i + ((0 : Nat) : Int) * -1) ((((i - j).toNat : Nat) : Int) - ((0 : Nat) : Int)) (-1)
          rw [e1, e2]
          exact Heap.get?_push_size _ rfl
        · have e : b = (s1.heap.push { cls := .type "range", data := .fields #[.int i t, .int j t', .int (-1) t''] }).objs.size := by simpa using hb
          subst e
          exact I2.fpOk (Nat.le_refl _) (I2.hok.fresh (Nat.le_refl _))
theorem for_down {hi : Int} {n : Nat} {g : TG} {tb : TS} {D : Ends} {σ : St} {H : Hp} (Pv : Nat → St → Hp → Prop) (h0 : Pv 0 σ H)
    (hs : ∀ i σ H, i < n → Pv i σ H → g (.int (hi - i)) σ H fun σ2 H2 => tb { D with nx := Pv (i + 1), ct := Pv (i + 1), bk := D.nx } σ2 H2) (hd : ∀ σ H, Pv n σ H → D.nx σ H) :
    ∃ W : Nat → Nat → St → Hp → Prop, (∃ m, W 0 m σ H) ∧ ∀ i m σ H, W i m σ H →
      ((Itd hi n).stop i H ∧ D.nx σ H) ∨ ((Itd hi n).go i H ∧ ∃ N : St → Hp → Prop, (∀ σ' H', N σ' H' → ∃ m', m' < m ∧ W (i + 1) m' σ' H') ∧ ∀ x H', (Itd hi n).yld i H x H' → g x σ H' fun σ2 H2 => tb { D with nx := N, ct := N, bk := D.nx } σ2 H2) := by
  refine ⟨fun i m σ H => m = n - i ∧ i ≤ n ∧ Pv i σ H, ⟨n, by simp, Nat.zero_le _, h0⟩, ?_⟩
  rintro i m σ H ⟨rfl, hi, p⟩
  by_cases hlt : i < n
  · refine .inr ⟨hlt, Pv (i + 1), fun σ' H' p' => ⟨n - (i + 1), by omega, rfl, hlt, p'⟩, fun x H' y => ?_⟩
    obtain ⟨e, y⟩ := y
    subst e y
    exact hs i σ _ hlt p
  · have e : i = n := by omega
    subst e
    exact .inl ⟨Nat.le_refl _, hd σ H p⟩
/-! ### the forms of a comprehension that one uses -/
theorem comp_range {lo : Int} {n : Nat} {D : Addr} {g : TG} {tt : TT} {te : TE} {σ0 : St} {H0 : Hp} {Q : Hp → Prop} (Pv : Nat → St → Hp → Prop) (h0 : Pv 0 σ0 H0)
    (hs : ∀ i σ H, i < n → Pv i σ H → g (.int (lo + i)) σ H fun σ2 H3 => tt σ2 H3 fun b H4 => if b = true then te σ2 H4 fun v H5 => ∃ ys, H5 D = some (.lst ys) ∧ ys.length < sizeLine ∧ Pv (i + 1) σ2 (upd H5 D (.lst (ys ++ [v]))) else Pv (i + 1) σ2 H4)
    (hd : ∀ σ H, Pv n σ H → Q H) : compRead (Itr lo n) D g tt te σ0 H0 Q := by
  refine ⟨fun i m σ H => m = n - i ∧ i ≤ n ∧ Pv i σ H, ⟨n, by simp, Nat.zero_le _, h0⟩, ?_⟩
  rintro i m σ H ⟨rfl, hi, p⟩
  by_cases hlt : i < n
  · refine .inr ⟨hlt, Pv (i + 1), fun σ' H' p' => ⟨n - (i + 1), by omega, rfl, hlt, p'⟩, fun x H' y => ?_⟩
    obtain ⟨e, y⟩ := y
    subst e y
    exact hs i σ _ hlt p
  · have e : i = n := by omega
    subst e
    exact .inl ⟨Nat.le_refl _, hd σ H p⟩
theorem comp_list {K : PySem.W.Frag} {a : Addr} {xs : List V} {D : Addr} {g : TG} {tt : TT} {te : TE} {σ0 : St} {H0 : Hp} {Q : Hp → Prop} (Pv : Nat → St → Hp → Prop) (h0 : Pv 0 σ0 H0) (hl : ∀ i σ H, i ≤ xs.length → Pv i σ H → SqL K H a xs)
    (hs : ∀ i x σ H, xs[i]? = some x → Pv i σ H → g x σ H fun σ2 H3 => tt σ2 H3 fun b H4 => if b = true then te σ2 H4 fun v H5 => ∃ ys, H5 D = some (.lst ys) ∧ ys.length < sizeLine ∧ Pv (i + 1) σ2 (upd H5 D (.lst (ys ++ [v]))) else Pv (i + 1) σ2 H4)
    (hd : ∀ σ H, Pv xs.length σ H → Q H) : compRead (Itl K a) D g tt te σ0 H0 Q := by
  refine ⟨fun i m σ H => m = xs.length - i ∧ i ≤ xs.length ∧ Pv i σ H, ⟨xs.length, by simp, Nat.zero_le _, h0⟩, ?_⟩
  rintro i m σ H ⟨rfl, hi, p⟩
  have q := hl i σ H hi p
  by_cases hlt : i < xs.length
  · refine .inr ⟨⟨xs, xs[i], q, by simp [hlt]⟩, Pv (i + 1), fun σ' H' p' => ⟨xs.length - (i + 1), by omega, rfl, hlt, p'⟩, fun x H' y => ?_⟩
    obtain ⟨e, y⟩ := y
    subst e
    exact hs i x σ _ (y xs q) p
  · have e : i = xs.length := by omega
    subst e
    exact .inl ⟨⟨xs, q, Nat.le_refl _⟩, hd σ H p⟩
end
end L2

set_option Elab.async false
set_option maxRecDepth 100000
set_option maxHeartbeats 4000000
namespace L2
open PySem PySem.Spec PyProof.Rows
/-! ### enumerate over a list -/
def Ite (K : PySem.W.Frag) (a : Addr) : It :=
  ⟨fun i H => ∃ xs x, SqL K H a xs ∧ xs[i]? = some x,
   fun i H x H' => ∃ (T : Addr) (v : V), H T = none ∧ x = .ref T ∧ H' = upd H T (.tup [.int i, v]) ∧ ∀ xs, SqL K H a xs → xs[i]? = some v,
   fun i H => ∃ xs, SqL K H a xs ∧ xs.length ≤ i⟩
theorem turn_enum {P : Program} {w : World} {K : PySem.W.Frag} {elts : List Expr} {x1 : Nat} {pos : Pos} (a e it : Addr) (hne : e ≠ it) :
    Turn P w K (.Tuple elts x1 pos) (Ite K a) [e, it] e (fun i h => (∃ old, IsEnum h e it i old) ∧ h.IsListIter it a i) where
  mem := by simp
  obj := fun i h st b hb => by
    rcases List.mem_cons.mp hb with rfl | hb
    · obtain ⟨⟨old, q⟩, _⟩ := st
      exact ⟨_, q, fun v z => by
        have z' : Data.fields _ = Data.cell v := z
        cases z'⟩
    · have e' : b = it := by simpa using hb
      subst e'
      obtain ⟨_, o, q, c, d⟩ := st
      exact ⟨o, q, fun v z => by rw [d] at z; cases z⟩
  keep := fun i h h' st k => by
    obtain ⟨⟨old, q⟩, st⟩ := st
    exact ⟨⟨old, k e (by simp) _ q⟩, st.at fun o e => k it (by simp) o e⟩
  item := by
    intro X hP hw hK hc i pins s σ H E I hf st hg
    subst hP hw hK
    obtain ⟨⟨old, he⟩, hit⟩ := st
    obtain ⟨xs, x, hq, hx⟩ := hg
    obtain ⟨its, rv, p, hz⟩ := I.list hq
    obtain ⟨u, hu, ru⟩ := rv.get hx
    obtain ⟨f0, f1, f2, f3, f4, f5⟩ := hf e (by simp)
    obtain ⟨g0, g1, g2, g3, g4, g5⟩ := hf it (by simp)
    refine wpAny_pyNext_enum_item he hit p.isList (x := u) (by simpa using hu) hne fun h₁ heo hit₁ ht₁ hz₁ hk₁ => ?_
    refine ⟨_, rfl, wpAny_letOwnedTupleGo_enum heo fun h₂ he₂ hs₂ => ?_⟩
    replace hs₂ : Heap.SameBut e h₁ h₂ := hs₂
    have hel : e < s.heap.objs.size := Heap.lt_size he
    have hT : H s.heap.objs.size = none := I.hok.fresh (Nat.le_refl _)
    have ht₂ : h₂.get? s.heap.objs.size = some { cls := .type "tuple", data := .seq #[.int i s.toks, u] } := (hs₂.2 _ (Nat.ne_of_gt hel)).trans ht₁
    have kk : ∀ b o, b ≠ e → b ≠ it → s.heap.get? b = some o → h₂.get? b = some o := fun b o h1 h2 q => (hs₂.2 b h1).trans (hk₁ b o h1 h2 q)
    have nT : ∀ b o, s.heap.get? b = some o → b ≠ s.heap.objs.size := fun b o q => Nat.ne_of_lt (Heap.lt_size q)
    have nch : ∀ b, b ∉ [e, it] → b ≠ e ∧ b ≠ it := fun b hb => ⟨fun z => hb (by simp [z]), fun z => hb (by simp [z])⟩
    have nE : ∀ b o, H b = some o → b ≠ e ∧ b ≠ it := fun b o q => ⟨fun z => (by rw [z, f0] at q; cases q), fun z => (by rw [z, g0] at q; cases q)⟩
    have I1 : Inv X pins σ (upd H s.heap.objs.size (.tup [.int i, x])) { s with heap := h₂, gens := s.gens, drawn := s.drawn, toks := s.toks + 1 } := by
      refine I.step (ch := [e, it]) (fun b hb => ?_) (fun b o _ _ hc q _ => kk b o (nch b hc).1 (nch b hc).2 q) (fun b o _ _ hc q _ => ⟨o.slots, kk b o (nch b hc).1 (nch b hc).2 q⟩) (fun b o _ q n => by rw [upd_ne (nT b o q)]; exact n)
        (fun b o hc q => ⟨o, kk b o (nch b hc).1 (nch b hc).2 q⟩) (fun b ys q => by rw [upd_ne (ne_of_none q hT)]; exact q) (fun b o z q => by rw [upd_ne (ne_of_none q hT)]; exact q) (fun b ps q => ⟨#[], by rw [upd_ne (ne_of_none q hT), q]; simp⟩) (fun m hm => ?_) (fun b z q => ?_) I.bare
      · rcases List.mem_cons.mp hb with rfl | hb
        · exact ⟨f3, f1, f4, f5⟩
        · have e' : b = it := by simpa using hb
          subst e'
          exact ⟨g3, g1, g4, g5⟩
      · obtain ⟨o, es, ep, ho, r⟩ := hm
        exact ⟨o, es, ep, kk _ o (Ne.symm f1) (Ne.symm g1) ho, r⟩
      · by_cases hb : b = s.heap.objs.size
        · subst hb
          rw [upd_same] at q
          cases q
          exact ⟨(by show 2 ≤ sizeLine; rw [sizeLine_eq]; decide), [.int i s.toks, u], .cons ⟨_, rfl⟩ (.cons ru .nil), _, ht₂, rfl, 0, rfl⟩
        · rw [upd_ne hb] at q
          refine (I.hok b z q).stay (fun c v hc q' => ?_) (fun c q' => by rw [upd_ne (ne_of_none q' hT)]; exact q') fun c ys q' => by rw [upd_ne (ne_of_none q' hT)]; exact q'
          rcases hc with rfl | hc
          · exact kk c v (nE c z q).1 (nE c z q).2 q'
          · exact kk c v (nE c _ hc).1 (nE c _ hc).2 q'
    refine ⟨.ref s.heap.objs.size, _, I1, rfl, ⟨s.heap.objs.size, x, hT, rfl, rfl, fun ys hy => by rw [I.list_inj hy hq]; exact hx⟩, ⟨⟨u, ?_⟩, ?_⟩, fun b hb => ?_⟩
    · have : ((i + 1 : Nat) : Int) = (i : Int) + 1 := by push_cast; rfl
      rw [this]; exact he₂
    · exact hit₁.extBut hs₂.extBut (Ne.symm hne)
    · have hbl : b < s.heap.objs.size := by
        rcases List.mem_cons.mp hb with rfl | hb
        · exact hel
        · have e' : b = it := by simpa using hb
          subst e'
          obtain ⟨o, q, _⟩ := hit
          exact Heap.lt_size q
      rw [upd_ne (Nat.ne_of_lt hbl)]
      exact (hf b hb).1
  done := by
    intro X hP hw hK hc i pins s σ H E I hf st hg
    subst hP hw hK
    obtain ⟨⟨old, he⟩, hit⟩ := st
    obtain ⟨xs, hq, hx⟩ := hg
    obtain ⟨its, rv, p, hz⟩ := I.list hq
    obtain ⟨g0, g1, g2, g3, g4, g5⟩ := hf it (by simp)
    have hl := rv.length
    exact wpAny_pyNext_enum_end (I.ok.hd hc) he hit p.isList (by simp; omega) fun h' eb => ⟨rfl, I.turned (t' := s.toks) (fun b o hb e => eb b o hb e) g0 g1 g3 g4 g5⟩
  self := fun A i s Q E st h => by
    obtain ⟨⟨old, he⟩, _⟩ := st
    exact wpAny_pyIter_enum he h
section
variable {X : Cx}
def iEnum (K : PySem.W.Frag) (ta : TA) : TI := fun σ H R => ta σ H fun vs H1 => ∃ a, vs = [.ref a] ∧ (∃ xs, SqL K H1 a xs) ∧ R (Ite K a) H1
theorem boot_enum : bootBuiltins "enumerate" = some (.type "enumerate") := by decide +kernel
theorem pi_enum {elts : List Expr} {x1 : Nat} {tpos : Pos} {l : Expr} {ta : TA} {p pos : Pos} (hg : Gl X "enumerate") (hm : X.mg "enumerate" = none) (ha : PA X [l] ta) (hs : starEach [l] X.env = [(false, eval l X.env)] := by rfl) : PI X (.Tuple elts x1 tpos) (.Call (.Name "enumerate" p) [l] [] pos) (iEnum X.K ta) := by
  intro pins s σ H R I h
  refine Call_ (ld_blt I hg hm boot_enum (PyProof.Rows.callWith_type1 (thn (ha pos pins s σ H _ I h) fun us s1 ⟨vs, H1, I1, r1, q1⟩ => ?_) hs rfl))
  obtain ⟨a, e, ⟨xs, hxs⟩, q⟩ := q1
  subst e
  obtain ⟨u, rfl, ru⟩ := vals1 r1
  cases ru
  obtain ⟨its, rv, pl, hz⟩ := I1.list hxs
  refine call_enumerate_list pl.isList fun h' he hit hsz hk => ?_
  have I2 : Inv X pins σ H1 { s1 with heap := h' } := I1.kept (t' := s1.toks) hk
  refine wpAny_pyIter_enum he ⟨s1.heap.objs.size + 1, [s1.heap.objs.size + 1, s1.heap.objs.size], _, Ite X.K a, H1, rfl, I2, turn_enum a _ _ (Nat.ne_of_gt (Nat.lt_succ_self _)), ⟨⟨_, he⟩, hit⟩, fun b hb => ?_, q⟩
  rcases List.mem_cons.mp hb with rfl | hb
  · exact I1.fpOk (Nat.le_succ _) (I1.hok.fresh (Nat.le_succ _))
  · have e' : b = s1.heap.objs.size := by simpa using hb
    subst e'
    exact I1.fpOk (Nat.le_refl _) (I1.hok.fresh (Nat.le_refl _))
/-- over enumerate(list), the list left as it is -/
theorem for_enum {K : PySem.W.Frag} {a : Addr} {xs : List V} {g : TG} {tb : TS} {D : Ends} {σ : St} {H : Hp} (Pv : Nat → St → Hp → Prop) (h0 : Pv 0 σ H) (hl : ∀ i σ H, i ≤ xs.length → Pv i σ H → SqL K H a xs)
    (hs : ∀ i x σ H T, xs[i]? = some x → Pv i σ H → H T = none → g (.ref T) σ (upd H T (.tup [.int i, x])) fun σ2 H2 => tb { D with nx := Pv (i + 1), ct := Pv (i + 1), bk := D.nx } σ2 H2) (hd : ∀ σ H, Pv xs.length σ H → D.nx σ H) :
    ∃ W : Nat → Nat → St → Hp → Prop, (∃ m, W 0 m σ H) ∧ ∀ i m σ H, W i m σ H →
      ((Ite K a).stop i H ∧ D.nx σ H) ∨ ((Ite K a).go i H ∧ ∃ N : St → Hp → Prop, (∀ σ' H', N σ' H' → ∃ m', m' < m ∧ W (i + 1) m' σ' H') ∧ ∀ x H', (Ite K a).yld i H x H' → g x σ H' fun σ2 H2 => tb { D with nx := N, ct := N, bk := D.nx } σ2 H2) := by
  refine ⟨fun i m σ H => m = xs.length - i ∧ i ≤ xs.length ∧ Pv i σ H, ⟨xs.length, by simp, Nat.zero_le _, h0⟩, ?_⟩
  rintro i m σ H ⟨rfl, hi, p⟩
  have q := hl i σ H hi p
  by_cases hlt : i < xs.length
  · refine .inr ⟨⟨xs, xs[i], q, by simp [hlt]⟩, Pv (i + 1), fun σ' H' p' => ⟨xs.length - (i + 1), by omega, rfl, hlt, p'⟩, fun x H' y => ?_⟩
    obtain ⟨T, v, hT, rfl, rfl, y⟩ := y
    exact hs i v σ H T (y xs q) p hT
  · have e : i = xs.length := by omega
    subst e
    exact .inl ⟨⟨xs, q, Nat.le_refl _⟩, hd σ H p⟩
end
end L2

set_option Elab.async false
set_option maxRecDepth 100000
set_option maxHeartbeats 4000000
namespace L2
open PySem PySem.Spec PyProof.Rows
/-! ### list(enumerate(list)) -/
section
variable {prog : Program} {w : World} {A : Around} {E : Value → Shared → Prop} {s : Shared}
end
end L2
namespace L2
open PySem PySem.Spec PyProof.Rows
section
variable {prog : Program} {w : World} {A : Around} {s : Shared} {R : Result → Shared → Prop}
end
section
variable {prog : Program} {w : World} {A : Around} {E : Value → Shared → Prop} {s : Shared}
end
end L2
namespace L2
open PySem PySem.Spec PyProof.Rows
section
variable {X : Cx} {pins : List (Addr × Obj)} {σ : St} {H H' : Hp} {s : Shared} {h' : Heap}
end
section
variable {X : Cx}
/-- not a starred one -/
def plainE : Expr → Bool
  | .Starred .. => false
  | _ => true
theorem star_plain {e : Expr} {es : List Expr} {env : Env} (h : plainE e = true) : starEach (e :: es) env = (false, eval e env) :: starEach es env := by
  cases e <;> first | rfl | cases h
theorem pac {e : Expr} {es : List Expr} {te : TE} {t : TA} (ha : PE X e te) (hr : PA X es t) (hp : plainE e = true := by rfl) : PA X (e :: es) (tCons te t) := pa_cons ha hr (star_plain hp)
end
end L2

set_option Elab.async false
set_option maxRecDepth 100000
set_option maxHeartbeats 4000000
namespace L2
open PySem PySem.Spec PyProof.Rows

/-! ### heaps that grow, and heaps in which some places change -/
/-- all but what stands at the places S is as it was -/
def Kp (S : List Addr) (H H' : Hp) : Prop := ∀ b o, b ∉ S → H b = some o → H' b = some o
theorem Kp.refl (S : List Addr) (H : Hp) : Kp S H H := fun _ _ _ q => q
theorem Kp.trans {S : List Addr} {H H1 H2 : Hp} (a : Kp S H H1) (b : Kp S H1 H2) : Kp S H H2 := fun c o n q => b c o n (a c o n q)
theorem Same.kp {S : List Addr} {H H' : Hp} (a : Same H H') : Kp S H H' := fun b o _ q => a b o q
theorem Kp.one {x b : Addr} {H H' : Hp} {o : HO} (a : Kp [x] H H') (n : b ≠ x) (q : H b = some o) : H' b = some o := a b o (by simp [n]) q
theorem same_upd {H : Hp} {p : Addr} {o : HO} (h : H p = none) : Same H (upd H p o) := fun c u z => by rw [upd_ne (ne_of_none z h)]; exact z
theorem kp_upd {H : Hp} {p : Addr} {o : HO} : Kp [p] H (upd H p o) := fun c u n z => by rw [upd_ne (by simpa using n)]; exact z
/-- nothing new is taken for something old -/
theorem Kp.free {H H' : Hp} {S : List Addr} (a : Kp S H H') {p : Addr} (n : p ∉ S) (h : H' p = none) : H p = none := by
  cases q : H p with
  | none => rfl
  | some o => rw [a p o n q] at h; cases h

section
variable {X : Cx}
theorem PE.imp {e : Expr} {t t' : TE} (h : PE X e t) (i : ∀ σ H Q, t' σ H Q → t σ H Q) : PE X e t' := fun pins s σ H Q I w => h pins s σ H Q I (i σ H Q w)
theorem PI.imp {tg e : Expr} {t t' : TI} (h : PI X tg e t) (i : ∀ σ H Q, t' σ H Q → t σ H Q) : PI X tg e t' := fun pins s σ H Q I w => h pins s σ H Q I (i σ H Q w)
theorem CallR.imp {f : Value} {r r' : List V → Hp → VK → Prop} (h : CallR X f r) (i : ∀ xs H Q, r' xs H Q → r xs H Q) : CallR X f r' := fun pins s σ H xs us Q I rx w => h pins s σ H xs us Q I rx (i xs H Q w)
theorem PS.imp {e : Stmt} {t t' : TS} (h : PS X e t) (i : ∀ D σ H, t' D σ H → t D σ H) : PS X e t' := fun pins s σ H D I w => h pins s σ H D I (i D σ H w)

/-! ### names -/
def gt : St → Nat → Option V
  | [], _ => none
  | o :: _, 0 => o
  | _ :: r, n + 1 => gt r n
theorem gt_some : ∀ {σ : St} {i : Nat} {v : V}, gt σ i = some v → σ[i]? = some (some v)
  | [], _, _, h => by simp [gt] at h
  | o :: _, 0, _, h => by simp [gt] at h; simp [h]
  | _ :: r, n + 1, _, h => by simp [gt] at h; simpa using gt_some h
def mVar (i : Nat) : TE := fun σ H Q => match gt σ i with
  | some v => Q v H
  | none => False
theorem mVar_imp {i : Nat} {σ : St} {H : Hp} {Q : VK} (h : mVar i σ H Q) : tVar i σ H Q := by
  unfold mVar at h
  cases e : gt σ i with
  | none => rw [e] at h; exact h.elim
  | some v => rw [e] at h; exact ⟨v, gt_some e, h⟩
theorem mv (i : Nat) {x : Str} {pos : Pos} (hN : X.N[i]? = some x := by rfl) (hv : Vis X.env.scope x := by first | exact Or.inl rfl | exact Or.inr (Or.inl rfl) | exact Or.inr (Or.inr rfl)) (hd : (x == ("__debug__" : Str)) = false := by decide)
    (hcd : (x == ("__classdict__" : Str)) = false := by decide) : PE X (.Name x pos) (mVar i) := (pe_var hN hv hd hcd).imp fun _ _ _ => mVar_imp

/-! ### the places where the heap is asked -/
@[irreducible] def hNewL (xs : List V) (H : Hp) (Q : VK) : Prop := xs.length ≤ sizeLine ∧ ∀ p, H p = none → Q (.ref p) (upd H p (.lst xs))
@[irreducible] def hNewT (xs : List V) (H : Hp) (Q : VK) : Prop := xs.length ≤ sizeLine ∧ ∀ p, H p = none → Q (.ref p) (upd H p (.tup xs))
@[irreducible] def hCat (a b : Addr) (H : Hp) (Q : VK) : Prop := ∃ xs ys, H a = some (.lst xs) ∧ H b = some (.lst ys) ∧ xs.length + ys.length ≤ sizeLine ∧ ∀ p, H p = none → Q (.ref p) (upd H p (.lst (xs ++ ys)))
@[irreducible] def hRep (a : Addr) (k : Int) (H : Hp) (Q : VK) : Prop := ∃ xs, H a = some (.lst xs) ∧ -(2 ^ 63) ≤ k ∧ k < 2 ^ 63 ∧ xs.length * k.toNat ≤ sizeLine ∧ ∀ p, H p = none → Q (.ref p) (upd H p (.lst (List.replicate k.toNat xs).flatten))
@[irreducible] def hIx (K : PySem.W.Frag) (a : Addr) (i : Int) (H : Hp) (Q : VK) : Prop := ∃ xs v, (SqL K H a xs ∨ SqT K H a xs) ∧ atI xs i = some v ∧ Q v H
@[irreducible] def hSl (K : PySem.W.Frag) (a : Addr) (lo hi : Option Int) (H : Hp) (Q : VK) : Prop := ∃ xs, SqL K H a xs ∧ ∀ p, H p = none → Q (.ref p) (upd H p (.lst (cutV xs lo hi)))
@[irreducible] def hApp (a : Addr) (y : V) (H : Hp) (Q : VK) : Prop := ∃ xs, H a = some (.lst xs) ∧ xs.length < sizeLine ∧ Q .non (upd H a (.lst (xs ++ [y])))
@[irreducible] def hClr (a : Addr) (H : Hp) (Q : VK) : Prop := ∃ xs, H a = some (.lst xs) ∧ Q .non (upd H a (.lst []))
@[irreducible] def hEqL (K : PySem.W.Frag) (a b : Addr) (H : Hp) (Q : Bool → Hp → Prop) : Prop := ∃ ns ms : List Int, SqL K H a (ns.map V.int) ∧ SqL K H b (ms.map V.int) ∧ Q (decide (ns = ms)) H
@[irreducible] def hSum (K : PySem.W.Frag) (a : Addr) (H : Hp) (Q : VK) : Prop := ∃ ns : List Int, SqL K H a (ns.map V.int) ∧ Q (.int ns.sum) H
@[irreducible] def hMax (K : PySem.W.Frag) (a : Addr) (H : Hp) (Q : VK) : Prop := ∃ ns : List Int, SqL K H a (ns.map V.int) ∧ ns ≠ [] ∧ ∀ M, M ∈ ns → (∀ a, a ∈ ns → a ≤ M) → Q (.int M) H
@[irreducible] def hMin (K : PySem.W.Frag) (a : Addr) (H : Hp) (Q : VK) : Prop := ∃ ns : List Int, SqL K H a (ns.map V.int) ∧ ns ≠ [] ∧ ∀ M, M ∈ ns → (∀ a, a ∈ ns → M ≤ a) → Q (.int M) H
@[irreducible] def hSorted (K : PySem.W.Frag) (a : Addr) (H : Hp) (Q : VK) : Prop := ∃ ns : List Int, SqL K H a (ns.map V.int) ∧ ns.length ≤ 1000 ∧ ∀ (l : Addr) (ns' : List Int), H l = none → ns'.Perm ns → ns'.Pairwise (· ≤ ·) → Q (.ref l) (upd H l (.lst (ns'.map V.int)))
@[irreducible] def hLen (K : PySem.W.Frag) (a : Addr) (H : Hp) (Q : VK) : Prop := ∃ ys, (SqL K H a ys ∨ SqT K H a ys) ∧ Q (.int ys.length) H
@[irreducible] def hIsi (K : PySem.W.Frag) (x : V) (c : String) (H : Hp) (Q : VK) : Prop := ∃ t, TyOf K H x (.type t) ∧ t ∈ ["NoneType", "bool", "int", "str", "list", "tuple", "dict"] ∧ c ∈ ["bool", "int", "str", "list", "tuple", "dict"] ∧ Q (.bl (isTy t c)) H

/-! ### how these are shown -/
section
variable {H : Hp} {Q : VK} {K : PySem.W.Frag} {a b : Addr}
theorem i_newL {xs : List V} (h : xs.length ≤ sizeLine) (q : ∀ p H', H p = none → Same H H' → H' p = some (.lst xs) → Q (.ref p) H') : hNewL xs H Q := by
  unfold hNewL; exact ⟨h, fun p hp => q p _ hp (same_upd hp) upd_same⟩
theorem i_newT {xs : List V} (h : xs.length ≤ sizeLine) (q : ∀ p H', H p = none → Same H H' → H' p = some (.tup xs) → Q (.ref p) H') : hNewT xs H Q := by
  unfold hNewT; exact ⟨h, fun p hp => q p _ hp (same_upd hp) upd_same⟩
theorem i_cat {xs ys : List V} (h1 : H a = some (.lst xs)) (h2 : H b = some (.lst ys)) (hl : xs.length + ys.length ≤ sizeLine) (q : ∀ p H', H p = none → Same H H' → H' p = some (.lst (xs ++ ys)) → Q (.ref p) H') : hCat a b H Q := by
  unfold hCat; exact ⟨xs, ys, h1, h2, hl, fun p hp => q p _ hp (same_upd hp) upd_same⟩
theorem i_ix {xs : List V} {i : Int} {v : V} (h : SqL K H a xs ∨ SqT K H a xs) (e : atI xs i = some v) (q : Q v H) : hIx K a i H Q := by unfold hIx; exact ⟨xs, v, h, e, q⟩
theorem i_ixN {xs : List V} {i : Int} {v : V} (k : Nat) (h : H a = some (.lst xs)) (hi : i = k) (e : xs[k]? = some v) (q : Q v H) : hIx K a i H Q := by
  subst hi; exact i_ix (.inl (SqL.of h)) (atI_nat e) q
theorem i_ixT {xs : List V} {i : Int} {v : V} (k : Nat) (h : H a = some (.tup xs)) (hi : i = k) (e : xs[k]? = some v) (q : Q v H) : hIx K a i H Q := by
  subst hi; exact i_ix (.inr (SqT.of h)) (atI_nat e) q
theorem i_ixI {ns : List Int} {i : Int} (h : H a = some (.lst (ns.map V.int))) (h0 : 0 ≤ i) (h1 : i < ns.length) (q : Q (.int (ns.getD i.toNat 0)) H) : hIx K a i H Q := by
  have e : i = ((i.toNat : Nat) : Int) := by omega
  refine i_ixN i.toNat h e (v := .int (ns.getD i.toNat 0)) ?_ q
  have hk : i.toNat < ns.length := by omega
  rw [List.getElem?_map, List.getElem?_eq_getElem hk, List.getD_eq_getElem?_getD, List.getElem?_eq_getElem hk]; rfl
theorem i_len {ys : List V} (h : SqL K H a ys ∨ SqT K H a ys) (q : Q (.int ys.length) H) : hLen K a H Q := by unfold hLen; exact ⟨ys, h, q⟩
theorem i_lenI {ns : List Int} (h : H a = some (.lst (ns.map V.int))) (q : Q (.int ns.length) H) : hLen K a H Q := i_len (.inl (SqL.of h)) (by rw [List.length_map]; exact q)
theorem i_lenL {xs : List V} (h : H a = some (.lst xs)) (q : Q (.int xs.length) H) : hLen K a H Q := i_len (.inl (SqL.of h)) q
theorem i_sum {ns : List Int} (h : SqL K H a (ns.map V.int)) (q : Q (.int ns.sum) H) : hSum K a H Q := by unfold hSum; exact ⟨ns, h, q⟩
theorem i_max {ns : List Int} (h : SqL K H a (ns.map V.int)) (hn : ns ≠ []) (q : ∀ M, M ∈ ns → (∀ a, a ∈ ns → a ≤ M) → Q (.int M) H) : hMax K a H Q := by unfold hMax; exact ⟨ns, h, hn, q⟩
theorem i_sorted {ns : List Int} (h : SqL K H a (ns.map V.int)) (hn : ns.length ≤ 1000) (q : ∀ p H' (ns' : List Int), ns'.Perm ns → H p = none → Same H H' → H' p = some (.lst (ns'.map V.int)) → Q (.ref p) H') : hSorted K a H Q := by
  unfold hSorted; exact ⟨ns, h, hn, fun l ns' hl hp _ => q l _ ns' hp hl (same_upd hl) upd_same⟩
theorem i_sortedS {ns : List Int} (h : SqL K H a (ns.map V.int)) (hn : ns.length ≤ 1000) (q : ∀ p H' (ns' : List Int), ns'.Perm ns → ns'.Pairwise (· ≤ ·) → H p = none → Same H H' → H' p = some (.lst (ns'.map V.int)) → Q (.ref p) H') : hSorted K a H Q := by
  unfold hSorted; exact ⟨ns, h, hn, fun l ns' hl hp hs => q l _ ns' hp hs hl (same_upd hl) upd_same⟩
theorem i_eqL {Q : Bool → Hp → Prop} {ns ms : List Int} (h1 : SqL K H a (ns.map V.int)) (h2 : SqL K H b (ms.map V.int)) (q : Q (decide (ns = ms)) H) : hEqL K a b H Q := by unfold hEqL; exact ⟨ns, ms, h1, h2, q⟩
theorem i_app {xs : List V} {y : V} (h : H a = some (.lst xs)) (hl : xs.length < sizeLine) (q : ∀ H', Kp [a] H H' → H' a = some (.lst (xs ++ [y])) → Q .non H') : hApp a y H Q := by
  unfold hApp; exact ⟨xs, h, hl, q _ kp_upd upd_same⟩
theorem i_appI {ns : List Int} {z : Int} (h : H a = some (.lst (ns.map V.int))) (hl : ns.length < 100000) (q : ∀ H', Kp [a] H H' → H' a = some (.lst ((ns ++ [z]).map V.int)) → Q .non H') : hApp a (.int z) H Q :=
  i_app h (by rw [List.length_map, sizeLine_eq]; omega) fun H' k e => q H' k (by rw [e, List.map_append]; rfl)
theorem i_sl {xs : List V} {lo hi : Option Int} (h : SqL K H a xs) (q : ∀ p H', H p = none → Same H H' → H' p = some (.lst (cutV xs lo hi)) → Q (.ref p) H') : hSl K a lo hi H Q := by
  unfold hSl; exact ⟨xs, h, fun p hp => q p _ hp (same_upd hp) upd_same⟩
end

/-! ### operations -/
def vAdd : R2 := fun x y H Q => match x, y with
  | .int i, .int j => Q (.int (i + j)) H
  | .ref a, .ref b => hCat a b H Q
  | .str i, .str j => i.length + j.length ≤ sizeLine ∧ Q (.str (i ++ j)) H
  | _, _ => False
theorem opAdd : OpR X (binaryOp .Add) vAdd := by
  intro pins s σ H x y v u Q I rx ry h
  cases x <;> cases y <;> first
    | exact (show False from h).elim
    | exact op_add pins s σ H _ _ v u Q I rx ry ⟨_, _, rfl, rfl, h⟩
    | (obtain ⟨h1, h2⟩ := (show _ ∧ _ from h); exact op_add_str pins s σ H _ _ v u Q I rx ry ⟨_, _, rfl, rfl, h1, h2⟩)
    | (have h := (show hCat _ _ H Q from h); unfold hCat at h; obtain ⟨xs, ys, h1, h2, h3, h4⟩ := h; exact op_cat pins s σ H _ _ v u Q I rx ry ⟨_, _, xs, ys, rfl, rfl, h1, h2, h3, h4⟩)
def vSub : R2 := fun x y H Q => match x, y with
  | .int i, .int j => Q (.int (i - j)) H
  | _, _ => False
theorem opSub : OpR X (binaryOp .Sub) vSub := by
  intro pins s σ H x y v u Q I rx ry h
  cases x <;> cases y <;> first
    | exact (show False from h).elim
    | exact op_sub pins s σ H _ _ v u Q I rx ry ⟨_, _, rfl, rfl, h⟩
def vMul : R2 := fun x y H Q => match x, y with
  | .int i, .int j => CMul i j ∧ Q (.int (i * j)) H
  | .ref a, .int k => hRep a k H Q
  | _, _ => False
theorem opMul : OpR X (binaryOp .Mult) vMul := by
  intro pins s σ H x y v u Q I rx ry h
  cases x <;> cases y <;> first
    | exact (show False from h).elim
    | (obtain ⟨h1, h2⟩ := (show CMul _ _ ∧ _ from h); exact op_mul pins s σ H _ _ v u Q I rx ry ⟨_, _, rfl, rfl, h1, h2⟩)
    | (have h := (show hRep _ _ H Q from h); unfold hRep at h; obtain ⟨xs, h1, h2, h3, h4, h5⟩ := h; exact op_rep pins s σ H _ _ v u Q I rx ry ⟨_, _, xs, rfl, rfl, h1, h2, h3, h4, h5⟩)
def vMod : R2 := fun x y H Q => match x, y with
  | .int i, .int j => 0 < j ∧ Q (.int (i % j)) H
  | _, _ => False
theorem opMod : OpR X (binaryOp .Mod) vMod := by
  intro pins s σ H x y v u Q I rx ry h
  cases x <;> cases y <;> first
    | exact (show False from h).elim
    | (obtain ⟨h1, h2⟩ := (show (0 : Int) < _ ∧ _ from h); exact op_mod pins s σ H _ _ v u Q I rx ry ⟨_, _, rfl, rfl, h1, h2⟩)
def vFdiv : R2 := fun x y H Q => match x, y with
  | .int i, .int j => (0 < j ∧ j < 2 ^ 200) ∧ Q (.int (i / j)) H
  | _, _ => False
theorem opFdiv : OpR X (binaryOp .FloorDiv) vFdiv := by
  intro pins s σ H x y v u Q I rx ry h
  cases x <;> cases y <;> first
    | exact (show False from h).elim
    | (obtain ⟨h1, h2⟩ := (show ((0 : Int) < _ ∧ _) ∧ _ from h); exact op_fdivL pins s σ H _ _ v u Q I rx ry ⟨_, _, rfl, rfl, h1, h2⟩)
def vPow : R2 := fun x y H Q => match x, y with
  | .int i, .int j => CPow i j ∧ Q (.int (i ^ j.toNat)) H
  | _, _ => False
theorem opPow : OpR X (binaryOp .Pow) vPow := by
  intro pins s σ H x y v u Q I rx ry h
  cases x <;> cases y <;> first
    | exact (show False from h).elim
    | (obtain ⟨h1, h2⟩ := (show CPow _ _ ∧ _ from h); exact op_pow pins s σ H _ _ v u Q I rx ry ⟨_, _, rfl, rfl, h1, h2⟩)
def vLt (p : Int → Int → Bool) : R2 := fun x y H Q => match x, y with
  | .int i, .int j => Q (.bl (p i j)) H
  | _, _ => False
theorem opCmp {op : CmpOp} {p : Int → Int → Bool} (h0 : OpR X (compareOp op) (rI0 fun i j => .bl (p i j))) : OpR X (compareOp op) (vLt p) := by
  intro pins s σ H x y v u Q I rx ry h
  cases x <;> cases y <;> first
    | exact (show False from h).elim
    | exact h0 pins s σ H _ _ v u Q I rx ry ⟨_, _, rfl, rfl, h⟩
theorem opLt : OpR X (compareOp .Lt) (vLt fun i j => decide (i < j)) := opCmp op_lt
theorem opLe : OpR X (compareOp .LtE) (vLt fun i j => decide (i ≤ j)) := opCmp op_le
theorem opGt : OpR X (compareOp .Gt) (vLt fun i j => decide (j < i)) := opCmp op_gt
theorem opGe : OpR X (compareOp .GtE) (vLt fun i j => decide (j ≤ i)) := opCmp op_ge
theorem dI {i j : Int} : decide (V.int i = V.int j) = decide (i = j) := by simp
theorem dS {i j : Str} : decide (V.str i = V.str j) = decide (i = j) := by simp
theorem dB {i j : Bool} : decide (V.bl i = V.bl j) = decide (i = j) := by simp
def vIsN (n : Bool → Bool) : R2 := fun x y H Q => match y with
  | .non => match x with
    | .non => Q (.bl (n true)) H
    | .int _ => Q (.bl (n false)) H
    | .ref _ => Q (.bl (n false)) H
    | .bl _ => Q (.bl (n false)) H
    | .str _ => Q (.bl (n false)) H
    | _ => False
  | _ => False
theorem opIs : OpR X (compareOp .Is) (vIsN id) := by
  intro pins s σ H x y v u Q I rx ry h
  cases y <;> first
    | exact (show False from h).elim
    | (cases x <;> first
      | exact (show False from h).elim
      | exact op_isN pins s σ H _ _ v u Q I rx ry ⟨rfl, h⟩)
def vNeg : V → Hp → VK → Prop := fun x H Q => match x with
  | .int i => Q (.int (-i)) H
  | _ => False
theorem unNeg : UnR X (unaryOp .USub) vNeg := by
  intro pins s σ H x v Q I rx h
  cases x <;> first
    | exact (show False from h).elim
    | exact un_neg pins s σ H _ v Q I rx ⟨_, rfl, h⟩
def vIx (K : PySem.W.Frag) : R2 := fun x y H Q => match x, y with
  | .ref a, .int i => hIx K a i H Q
  | _, _ => False
theorem ixM : IxR X (vIx X.K) := by
  intro value slice pins s σ H x y v u Q I rx ry h
  cases x <;> cases y <;> first
    | exact (show False from h).elim
    | (have h := (show hIx _ _ _ H Q from h)
       unfold hIx at h
       obtain ⟨xs, w, h1 | h1, h2, h3⟩ := h
       · exact ix_list value slice pins s σ H _ _ v u Q I rx ry ⟨_, xs, _, w, rfl, rfl, h1, h2, h3⟩
       · exact ix_tup value slice pins s σ H _ _ v u Q I rx ry ⟨_, xs, _, w, rfl, rfl, h1, h2, h3⟩)
def vSl (K : PySem.W.Frag) : V → Option Int → Option Int → Hp → VK → Prop := fun x lo hi H Q => match x with
  | .ref a => hSl K a lo hi H Q
  | _ => False
theorem slM : SlR X (vSl X.K) := by
  intro pins s σ H x v vl vu lo hi sl Q I rx hs pl pu h
  cases x <;> first
    | exact (show False from h).elim
    | (have h := (show hSl _ _ _ _ H Q from h)
       unfold hSl at h
       obtain ⟨xs, h1, h2⟩ := h
       exact sl_list pins s σ H _ v vl vu lo hi sl Q I rx hs pl pu ⟨_, xs, rfl, h1, h2⟩)
def mPart (t : TE) : TO := fun σ H Q => t σ H fun x H1 => match x with
  | .int i => Q (some i) H1
  | _ => False
theorem po_m {e : Expr} {te : TE} (h : PE X e te) : PO X (some e) (mPart te) := by
  intro pins s σ H Q I hw
  rw [evalPart_some]
  refine thn (h pins s σ H _ I hw) fun u s1 ⟨x, H1, I1, r1, q1⟩ => ?_
  cases x <;> first
    | exact (show False from q1).elim
    | (obtain ⟨t, rfl⟩ := r1; exact ⟨some _, H1, I1, .int _ t, q1⟩)

/-! ### truth -/
@[irreducible] def hTru (K : PySem.W.Frag) (a : Addr) (H : Hp) (Q : Bool → Hp → Prop) : Prop := ∃ xs, (SqL K H a xs ∨ SqT K H a xs) ∧ Q (!xs.isEmpty) H
def vTru (K : PySem.W.Frag) (x : V) (H : Hp) (Q : Bool → Hp → Prop) : Prop := match x with
  | .bl b => Q b H
  | .int i => Q (i != 0) H
  | .non => Q false H
  | .ref a => hTru K a H Q
  | _ => False
theorem vTru_imp {K : PySem.W.Frag} {x : V} {H : Hp} {Q : Bool → Hp → Prop} (h : vTru K x H Q) : ∃ k, TruV K x H k ∧ Q k H := by
  cases x <;> first
    | exact (show False from h).elim
    | exact ⟨_, rfl, h⟩
    | (have h := (show hTru _ _ H Q from h)
       unfold hTru at h
       obtain ⟨xs, h1 | h1, h2⟩ := h
       · exact ⟨_, .inl ⟨xs, h1, rfl⟩, h2⟩
       · exact ⟨_, .inr (.inl ⟨xs, h1, rfl⟩), h2⟩)
theorem tru_m {pins : List (Addr × Obj)} {s : Shared} {σ : St} {H : Hp} {x : V} {v : Value} {Q : Bool → Hp → Prop} (I : Inv X pins σ H s) (r : RelV x v) (h : vTru X.K x H Q) : wpAny (model X.prog X.w) X.A (truthy v) (TP X pins σ Q) X.xe s :=
  tru_ok pins s σ H x v Q I r (vTru_imp h)
/-- a value as a test -/
def mT (K : PySem.W.Frag) (t : TE) : TT := fun σ H Q => t σ H fun x H' => vTru K x H' Q
theorem pt_m {a : Expr} {ta : TE} (ha : PE X a ta) (he : ∀ whole, isTrue a X.env whole = (do let v ← whole; standAt a.pos; holding [v] (truthy v)) := by intro _; rfl) : PT X a (mT X.K ta) := by
  intro pins s σ H Q I h
  exact isTrue_plain (thn (ha pins s σ H _ I h) fun v s1 ⟨x, H1, I1, r1, q1⟩ => tru_m I1 r1 q1) (he _)
def mB (t : TE) : TT := fun σ H Q => t σ H fun x H' => match x with
  | .bl k => Q k H'
  | _ => False
section
variable {a b c : Expr} {ta tb tc : TE} {pos : Pos} {tA tB' : TT} {rest : List Expr}
theorem pt_cm {op : CmpOp} {r : R2} (ho : OpR X (compareOp op) r) (ha : PE X a ta) (hb : PE X b tb) (hm : behindInMarks op b = false) : PT X (.Compare a [op] [b] pos) (mB (tOp r ta tb)) := by
  intro pins s σ H Q I h
  refine wpAny_isTrue_Compare1 (thn (ha pins s σ H _ I h) fun v s1 ⟨x, H1, I1, r1, q1⟩ => thn (hb pins s1 σ H1 _ I1 q1) fun u s2 ⟨y, H2, I2, r2, q2⟩ =>
    thn (ho pins s2 σ H2 x y v u _ I2 r1 r2 q2) fun c s3 ⟨z, H3, I3, r3, q3⟩ => ?_) hm
  cases z <;> first
    | exact (show False from q3).elim
    | (cases r3; exact wpAny_truthy_bool ⟨H3, I3, q3⟩)
def mChain (r r' : R2) (ta tb tc : TE) : TE := fun σ H Q => ta σ H fun x H1 => tb σ H1 fun y H2 => r x y H2 fun z H3 => match z with
  | .bl k => (k = true → tc σ H3 fun w' H4 => r' y w' H4 Q) ∧ (k = false → Q (.bl false) H3)
  | _ => False
theorem pe_chm {op op' : CmpOp} {r r' : R2} (ho : OpR X (compareOp op) r) (ho' : OpR X (compareOp op') r') (ha : PE X a ta) (hb : PE X b tb) (hc : PE X c tc)
    (hm : lastMarks [op, op'] [b, c] = false := by with_unfolding_all rfl) : PE X (.Compare a [op, op'] [b, c] pos) (mChain r r' ta tb tc) := by
  intro pins s σ H Q I h
  refine Compare_chain (thn (ha pins s σ H _ I h) fun v s1 ⟨x, H1, I1, r1, q1⟩ => chain_link (thn (hb pins s1 σ H1 _ I1 q1) fun u s2 ⟨y, H2, I2, r2, q2⟩ =>
    thn (ho pins s2 σ H2 x y v u _ I2 r1 r2 q2) fun d s3 ⟨z, H3, I3, r3, q3⟩ => ?_)) hm
  cases z <;> first
    | exact (show False from q3).elim
    | skip
  rename_i k
  cases r3
  refine wpAny_truthy_bool ?_
  cases k with
  | false => exact ite_ff ⟨.bl false, H3, I3, rfl, q3.2 rfl⟩
  | true => exact ite_tt (chain_last (thn (hc pins s3 σ H3 _ I3 (q3.1 rfl)) fun w' s4 ⟨z', H4, I4, r4, q4⟩ => ho' pins s4 σ H4 y z' u w' Q I4 r2 r4 q4))
def mAnd (t u : TT) : TT := fun σ H Q => t σ H fun c H1 => (c = true → u σ H1 Q) ∧ (c = false → Q false H1)
def mOr (t u : TT) : TT := fun σ H Q => t σ H fun c H1 => (c = true → Q true H1) ∧ (c = false → u σ H1 Q)
theorem pw_am (ha : PT X a tA) (hb : PW X (.BoolOp .And (b :: rest) pos) tB') : PW X (.BoolOp .And (a :: b :: rest) pos) (mAnd tA tB') := by
  intro wh pins s σ H Q I h
  refine isTrue_and (thn (ha pins s σ H _ I h) fun c s1 ⟨H1, I1, q1⟩ => ?_)
  cases c with
  | true => exact hb wh pins s1 σ H1 Q I1 (q1.1 rfl)
  | false => exact ⟨H1, I1, q1.2 rfl⟩
theorem pw_om (ha : PT X a tA) (hb : PW X (.BoolOp .Or (b :: rest) pos) tB') : PW X (.BoolOp .Or (a :: b :: rest) pos) (mOr tA tB') := by
  intro wh pins s σ H Q I h
  refine isTrue_or (thn (ha pins s σ H _ I h) fun c s1 ⟨H1, I1, q1⟩ => ?_)
  cases c with
  | true => exact ⟨H1, I1, q1.1 rfl⟩
  | false => exact hb wh pins s1 σ H1 Q I1 (q1.2 rfl)
def mAndV (K : PySem.W.Frag) (ta tb : TE) : TE := fun σ H Q => ta σ H fun x H1 => vTru K x H1 fun c H2 => (c = true → tb σ H2 Q) ∧ (c = false → Q x H2)
def mNotV (K : PySem.W.Frag) (ta : TE) : TE := fun σ H Q => ta σ H fun x H1 => vTru K x H1 fun c H2 => Q (.bl (!c)) H2
theorem pe_am (ha : PE X a ta) (hb : PE X (.BoolOp .And (b :: rest) pos) tb) : PE X (.BoolOp .And (a :: b :: rest) pos) (mAndV X.K ta tb) := by
  intro pins s σ H Q I h
  refine BoolOp_and (thn (ha pins s σ H _ I h) fun v s1 ⟨x, H1, I1, r1, q1⟩ => ?_)
  refine thn (tru_m I1 r1 q1) fun c s2 ⟨H2, I2, q2⟩ => ?_
  cases c with
  | true => exact hb pins s2 σ H2 Q I2 (q2.1 rfl)
  | false => exact ⟨x, H2, I2, r1, q2.2 rfl⟩
theorem pe_nm (ha : PE X a ta) : PE X (.UnaryOp .Not a pos) (mNotV X.K ta) := by
  intro pins s σ H Q I h
  refine UnaryOp_ (thn (ha pins s σ H _ I h) fun v s1 ⟨x, H1, I1, r1, q1⟩ => ?_)
  exact not_of (thn (tru_m I1 r1 q1) fun c s2 ⟨H2, I2, q2⟩ => ⟨.bl (!c), H2, I2, rfl, q2⟩)
end

/-! ### statements -/
section
variable {st : Stmt} {rest : List Stmt} {t u : TS} {e : Expr} {te : TE} {pos : Pos}
def mIfS (c : TT) (t u : TS) : TS := fun D σ H => c σ H fun b H1 => (b = true → t D σ H1) ∧ (b = false → u D σ H1)
theorem ps_ifm {c : Expr} {a b : List Stmt} {tc : TT} (hc : PT X c tc) (ha : PSs X a t) (hb : PSs X b u) : PS X (.If c a b pos) (mIfS tc t u) := by
  intro pins s σ H D I h
  refine wpAny_If (thn (hc pins s σ H _ I h) fun d s1 ⟨H1, I1, q1⟩ => ?_)
  cases d with
  | true => exact ha pins s1 σ H1 D I1 (q1.1 rfl)
  | false => exact hb pins s1 σ H1 D I1 (q1.2 rfl)
/-- a block with a stop behind its first statement -/
def mMid (t u : TS) : TS := fun D σ H => ∃ M : St → Hp → Prop, t { D with nx := M } σ H ∧ ∀ σ' H', M σ' H' → u D σ' H'
theorem pss_mid (h1 : PS X st t) (h2 : PSs X rest u) : PSs X (st :: rest) (mMid t u) := by
  intro pins s σ H D I h
  obtain ⟨M, h, hM⟩ := h
  refine wpAny_execs_cons (thn (h1 pins s σ H { D with nx := M } I h) fun f s1 q => ?_)
  cases f with
  | next =>
    obtain ⟨σ', H', I', q⟩ := q
    exact h2 pins s1 σ' H' D I' (hM _ _ q)
  | ret v => exact q
  | brk => exact q
  | cont => exact q
def mWhile (c : TT) (tb : TS) : TS := fun D σ H => ∃ W : Nat → St → Hp → Prop, (∃ m, W m σ H) ∧ ∀ m σ H, W m σ H →
  c σ H fun b H1 => (b = true → tb { D with nx := fun σ' H' => ∃ m', m' < m ∧ W m' σ' H', ct := fun σ' H' => ∃ m', m' < m ∧ W m' σ' H', bk := D.nx } σ H1) ∧ (b = false → D.nx σ H1)
theorem ps_whm {c : Expr} {body : List Stmt} {tc : TT} {tb : TS} (hp : PassesOwn (model X.prog X.w) X.A X.env X.xe) (hc : PT X c tc) (hb : PSs X body tb) : PS X (.While c body [] pos) (mWhile tc tb) := by
  intro pins s σ H D I h
  obtain ⟨W, ⟨m0, w0⟩, turn⟩ := h
  refine wpAny_While (codeAny_whileLoop (fun n s' => ∃ σ' H', Inv X pins σ' H' s' ∧ W n σ' H') ?_ m0 ⟨σ, H, I, w0⟩)
  rintro n s1 ⟨σ1, H1, I1, w1⟩
  refine wpAny_passesOwn hp (thn (hc pins s1 σ1 H1 _ I1 (turn n σ1 H1 w1)) fun b s2 ⟨H2, I2, q2⟩ => ?_)
  cases b with
  | true =>
    rw [if_pos rfl]
    refine wpAny_passesOwn hp (thn (hb pins s2 σ1 H2 _ I2 (q2.1 rfl)) fun f s3 q3 => ?_)
    cases f with
    | next =>
      obtain ⟨σ3, H3, I3, m', hm, w3⟩ := q3
      exact ⟨m', hm, σ3, H3, I3, w3⟩
    | cont =>
      obtain ⟨σ3, H3, I3, m', hm, w3⟩ := q3
      exact ⟨m', hm, σ3, H3, I3, w3⟩
    | brk => exact q3
    | ret v => exact q3
  | false =>
    rw [if_neg Bool.false_ne_true]
    exact wpAny_execs_nil ⟨σ1, H2, I2, q2.2 rfl⟩
/-- a while by its invariant: W, with a measure -/
theorem while_m {c : TT} {tb : TS} {D : Ends} {σ : St} {H : Hp} (W : Nat → St → Hp → Prop) (m : Nat) (h0 : W m σ H)
    (hs : ∀ m σ H, W m σ H → c σ H fun b H1 => (b = true → tb { D with nx := fun σ' H' => ∃ m', m' < m ∧ W m' σ' H', ct := fun σ' H' => ∃ m', m' < m ∧ W m' σ' H', bk := D.nx } σ H1) ∧ (b = false → D.nx σ H1)) : mWhile c tb D σ H := ⟨W, ⟨m, h0⟩, hs⟩
def mAug (i : Nat) (te : TE) (ti : TIp) : TS := fun D σ H => match gt σ i with
  | some x => te σ H fun y H1 => ti x y H1 fun z H2 => D.nx (σ.set i (some z)) H2
  | none => False
theorem ps_augm {i : Nat} {x : Str} {e : Expr} {te : TE} {op : Operator} {ti : TIp} {pos' : Pos} (hN : X.N.Nodup) (hi : X.N[i]? = some x) (hx : Loc X.env.scope x) (he : PE X e te) (ho : PIp X op ti) (hf : X.fn x = true ∨ X.env.scope.names.lookup x = some .local := by first | exact .inl rfl | exact .inr rfl | assumption) :
    PS X (.AugAssign (.Name x pos') op e pos) (mAug i te ti) := (ps_aug hN hi hx he ho hf).imp fun D σ H h => by
  unfold mAug at h
  cases e : gt σ i with
  | none => rw [e] at h; exact h.elim
  | some v => rw [e] at h; exact ⟨v, gt_some e, h⟩
def vIpI (f : Int → Int → Int) : TIp := fun x y H Q => match x, y with
  | .int i, .int j => Q (.int (f i j)) H
  | _, _ => False
theorem ipAdd : PIp X .Add (vIpI fun i j => i + j) := by
  intro pins s σ H x y v u Q I r1 r2 h
  cases x <;> cases y <;> first
    | exact (show False from h).elim
    | exact ip_add pins s σ H _ _ v u Q I r1 r2 ⟨_, _, rfl, rfl, h⟩
theorem ipSub : PIp X .Sub (vIpI fun i j => i - j) := by
  intro pins s σ H x y v u Q I r1 r2 h
  cases x <;> cases y <;> first
    | exact (show False from h).elim
    | exact ip_sub pins s σ H _ _ v u Q I r1 r2 ⟨_, _, rfl, rfl, h⟩
end

/-! ### displays, methods, builtins -/
def mLst (t : TA) : TE := fun σ H Q => t σ H fun xs H1 => hNewL xs H1 Q
def mTup (t : TA) : TE := fun σ H Q => t σ H fun xs H1 => hNewT xs H1 Q
theorem pe_lm {es : List Expr} {t : TA} {pos : Pos} (h : PA X es t) : PE X (.List es pos) (mLst t) := by
  intro pins s σ H Q I w
  refine pe_lst (t := fun σ H Q => t σ H Q) h pins s σ H Q I ?_
  have w' : t σ H fun xs H1 => hNewL xs H1 Q := w
  unfold hNewL at w'
  exact w'
theorem pe_tm {x1 : Nat} {es : List Expr} {t : TA} {pos : Pos} (h : PA X es t) : PE X (.Tuple es x1 pos) (mTup t) := by
  intro pins s σ H Q I w
  refine pe_tup (t := fun σ H Q => t σ H Q) h pins s σ H Q I ?_
  have w' : t σ H fun xs H1 => hNewT xs H1 Q := w
  unfold hNewT at w'
  exact w'
def vApp : V → List V → Hp → VK → Prop := fun x vs H Q => match x, vs with
  | .ref a, [y] => hApp a y H Q
  | _, _ => False
theorem mtApp : MtM X "list.append" vApp := by
  intro pins s σ H x vs v us Q I rx rv h
  unfold vApp at h
  split at h
  · unfold hApp at h; obtain ⟨xs, h1, h2, h3⟩ := h; exact mt_append pins s σ H _ _ v us Q I rx rv ⟨_, xs, _, rfl, rfl, h1, h2, h3⟩
  · exact h.elim
theorem i_tyL {K : PySem.W.Frag} {H : Hp} {a : Addr} {xs : List V} (h : H a = some (.lst xs)) : tyV K "list" (.ref a) H := .inl ⟨rfl, _, SqL.of h⟩
def vSum (K : PySem.W.Frag) : List V → Hp → VK → Prop := fun xs H Q => match xs with
  | [.ref a] => hSum K a H Q
  | _ => False
theorem callSum (hc : X.calm = true) : CallR X (.builtin "sum") (vSum X.K) := (call_sum hc).imp fun xs H Q h => by
  unfold vSum at h; split at h
  · unfold hSum at h; obtain ⟨ns, h1, h2⟩ := h; exact ⟨_, ns, rfl, h1, h2⟩
  · exact h.elim
def vMax (K : PySem.W.Frag) : List V → Hp → VK → Prop := fun xs H Q => match xs with
  | [.ref a] => hMax K a H Q
  | [.int i, .int j] => Q (.int (max i j)) H
  | _ => False
theorem callMax (hc : X.calm = true) : CallR X (.builtin "max") (vMax X.K) := ((call_max hc).or (call_max2 hc)).imp fun xs H Q h => by
  unfold vMax at h; split at h
  · unfold hMax at h; obtain ⟨ns, h1, h2⟩ := h; exact .inl ⟨_, ns, rfl, h1, h2⟩
  · refine .inr ⟨_, _, rfl, ?_⟩
    rename_i i j
    have e : (if j > i then j else i) = max i j := by split <;> omega
    rw [e]; exact h
  · exact h.elim
def vMin (K : PySem.W.Frag) : List V → Hp → VK → Prop := fun xs H Q => match xs with
  | [.ref a] => hMin K a H Q
  | [.int i, .int j] => Q (.int (min i j)) H
  | _ => False
theorem callMin (hc : X.calm = true) : CallR X (.builtin "min") (vMin X.K) := ((call_min hc).or (call_min2 hc)).imp fun xs H Q h => by
  unfold vMin at h; split at h
  · unfold hMin at h; obtain ⟨ns, h1, h2⟩ := h; exact .inl ⟨_, ns, rfl, h1, h2⟩
  · refine .inr ⟨_, _, rfl, ?_⟩
    rename_i i j
    have e : (if j < i then j else i) = min i j := by split <;> omega
    rw [e]; exact h
  · exact h.elim
def vLen (K : PySem.W.Frag) : List V → Hp → VK → Prop := fun xs H Q => match xs with
  | [.ref a] => hLen K a H Q
  | _ => False
theorem callLen : CallR X (.builtin "len") (vLen X.K) := call_len_seq.imp fun xs H Q h => by
  unfold vLen at h; split at h
  · unfold hLen at h; obtain ⟨ys, h1, h2⟩ := h; exact ⟨_, ys, rfl, h1, h2⟩
  · exact h.elim
def vSorted (K : PySem.W.Frag) : List V → Hp → VK → Prop := fun xs H Q => match xs with
  | [.ref a] => hSorted K a H Q
  | _ => False
theorem callSorted : CallR X (.builtin "sorted") (vSorted X.K) := call_sorted.imp fun xs H Q h => by
  unfold vSorted at h; split at h
  · unfold hSorted at h; obtain ⟨ys, h1, h2⟩ := h; exact ⟨_, ys, rfl, h1, h2⟩
  · exact h.elim
def vInt : List V → Hp → VK → Prop := fun xs H Q => match xs with
  | [.int i] => Q (.int i) H
  | [.bl k] => Q (.int (if k then 1 else 0)) H
  | _ => False
theorem callInt : CallR X (.type "int") vInt := call_int1.imp fun xs H Q h => by
  unfold vInt at h; split at h
  · exact .inl ⟨_, rfl, h⟩
  · exact .inr ⟨_, rfl, h⟩
  · exact h.elim
def vIsi (K : PySem.W.Frag) : List V → Hp → VK → Prop := fun xs H Q => match xs with
  | [x, .ty c] => hIsi K x c H Q
  | _ => False
theorem callIsi : CallR X (.builtin "isinstance") (vIsi X.K) := call_isinstance.imp fun xs H Q h => by
  unfold vIsi at h; split at h
  · unfold hIsi at h; obtain ⟨t, h1, h2⟩ := h; exact ⟨_, t, _, rfl, h1, h2⟩
  · exact h.elim
end

/-! ### what loops walk -/
section
variable {X : Cx} {tg : Expr}
def mItL (K : PySem.W.Frag) (tl : TE) : TI := fun σ H R => tl σ H fun x H1 => match x with
  | .ref a => (∃ xs, SqL K H1 a xs) ∧ R (Itl K a) H1
  | _ => False
theorem pi_lm {l : Expr} {tl : TE} (hl : PE X l tl) : PI X tg l (mItL X.K tl) := by
  intro pins s σ H R I h
  refine thn (hl pins s σ H _ I h) fun v s1 ⟨x, H1, I1, r1, q1⟩ => ?_
  cases x <;> first
    | exact (show False from q1).elim
    | skip
  rename_i a
  obtain ⟨⟨xs, hq⟩, q⟩ := (show (∃ xs, SqL X.K H1 a xs) ∧ R (Itl X.K a) H1 from q1)
  cases r1
  obtain ⟨its, rv, p, hz⟩ := I1.list hq
  refine wpAny_pyIter_list p.isList ?_
  refine ⟨s1.heap.objs.size, [s1.heap.objs.size], _, _, H1, rfl, I1.kept (t' := s1.toks) fun b o e => Heap.get?_push_of_some _ e, turn_list a _, ⟨_, Heap.get?_push_size _ rfl, rfl, rfl⟩, fun b hb => ?_, q⟩
  have e : b = s1.heap.objs.size := by simpa using hb
  subst e
  exact I1.fpOk (Nat.le_refl _) (I1.hok.fresh (Nat.le_refl _))
def mItT (K : PySem.W.Frag) (tl : TE) : TI := fun σ H R => tl σ H fun x H1 => match x with
  | .ref a => (∃ xs, SqT K H1 a xs) ∧ R (Itt K a) H1
  | _ => False
theorem pi_tm {l : Expr} {tl : TE} (hl : PE X l tl) : PI X tg l (mItT X.K tl) := by
  intro pins s σ H R I h
  refine thn (hl pins s σ H _ I h) fun v s1 ⟨x, H1, I1, r1, q1⟩ => ?_
  cases x <;> first
    | exact (show False from q1).elim
    | skip
  rename_i a
  obtain ⟨⟨xs, hq⟩, q⟩ := (show (∃ xs, SqT X.K H1 a xs) ∧ R (Itt X.K a) H1 from q1)
  cases r1
  obtain ⟨its, rv, p, hz⟩ := I1.tuple hq
  refine wpAny_pyIter_tuple (show s1.heap.IsTuple a its.toArray from p) ?_
  refine ⟨s1.heap.objs.size, [s1.heap.objs.size], _, _, H1, rfl, I1.kept (t' := s1.toks) fun b o e => Heap.get?_push_of_some _ e, turn_tuple a _, ⟨_, Heap.get?_push_size _ rfl, rfl, rfl⟩, fun b hb => ?_, q⟩
  have e : b = s1.heap.objs.size := by simpa using hb
  subst e
  exact I1.fpOk (Nat.le_refl _) (I1.hok.fresh (Nat.le_refl _))
def upA (t : TA) : TA := fun σ H Q => ∃ P : List V → Hp → Prop, t σ H P ∧ ∀ vs H1, P vs H1 → Q vs H1
theorem PA.up {es : List Expr} {t : TA} (h : PA X es t) : PA X es (upA t) := by
  intro pos pins s σ H Q I w
  obtain ⟨P, w, hP⟩ := w
  exact thn (h pos pins s σ H P I w) fun us s1 ⟨vs, H1, I1, r1, q1⟩ => ⟨vs, H1, I1, r1, hP _ _ q1⟩
def mRng1 (ta : TA) : TI := fun σ H R => ta σ H fun vs H1 => match vs with
  | [.int j] => (-(2 ^ 62) ≤ j ∧ j < 2 ^ 62) ∧ R (Itr 0 j.toNat) H1
  | _ => False
def mRngD (ta : TA) : TI := fun σ H R => ta σ H fun vs H1 => match vs with
  | [.int i, .int j, .int k] => k = -1 ∧ (-(2 ^ 61) ≤ i ∧ i < 2 ^ 61 ∧ -(2 ^ 61) ≤ j ∧ j < 2 ^ 61) ∧ R (Itd i (i - j).toNat) H1
  | _ => False
def mEnum (K : PySem.W.Frag) (ta : TA) : TI := fun σ H R => ta σ H fun vs H1 => match vs with
  | [.ref a] => (∃ xs, SqL K H1 a xs) ∧ R (Ite K a) H1
  | _ => False
theorem pi_r1 {a : Expr} {ta : TA} {p pos : Pos} (hg : Gl X "range") (hm : X.mg "range" = none) (ha : PA X [a] ta) (hs : starEach [a] X.env = [(false, eval a X.env)] := by rfl) : PI X tg (.Call (.Name "range" p) [a] [] pos) (mRng1 ta) :=
  (pi_range1 hg hm ha.up hs).imp fun σ H R h => ⟨_, h, fun vs H1 q => by
    split at q
    · exact ⟨_, rfl, q.1.1, q.1.2, q.2⟩
    · exact q.elim⟩
theorem pi_rd {a b c : Expr} {ta : TA} {p pos : Pos} (hg : Gl X "range") (hm : X.mg "range" = none) (ha : PA X [a, b, c] ta) (hs : starEach [a, b, c] X.env = [(false, eval a X.env), (false, eval b X.env), (false, eval c X.env)] := by rfl) (hs2 : starEach [b, c] X.env = [(false, eval b X.env), (false, eval c X.env)] := by rfl) :
    PI X tg (.Call (.Name "range" p) [a, b, c] [] pos) (mRngD ta) := (pi_down hg hm ha.up hs hs2).imp fun σ H R h => ⟨_, h, fun vs H1 q => by
    split at q
    · obtain ⟨rfl, q1, q2⟩ := q; exact ⟨_, _, rfl, q1, q2⟩
    · exact q.elim⟩
theorem pi_en {elts : List Expr} {x1 : Nat} {tpos : Pos} {l : Expr} {ta : TA} {p pos : Pos} (hg : Gl X "enumerate") (hm : X.mg "enumerate" = none) (ha : PA X [l] ta) (hs : starEach [l] X.env = [(false, eval l X.env)] := by rfl) : PI X (.Tuple elts x1 tpos) (.Call (.Name "enumerate" p) [l] [] pos) (mEnum X.K ta) :=
  (pi_enum hg hm ha.up hs).imp fun σ H R h => ⟨_, h, fun vs H1 q => by
    split at q
    · exact ⟨_, rfl, q.1, q.2⟩
    · exact q.elim⟩
@[irreducible] def hUnp (K : PySem.W.Frag) (a : Addr) (n : Nat) (H : Hp) (Q : List V → Prop) : Prop := ∃ xs, SqT K H a xs ∧ xs.length = n ∧ Q xs
theorem i_unp {K : PySem.W.Frag} {a : Addr} {n : Nat} {H : Hp} {Q : List V → Prop} {xs : List V} (h : H a = some (.tup xs)) (hl : xs.length = n) (q : Q xs) : hUnp K a n H Q := by unfold hUnp; exact ⟨xs, SqT.of h, hl, q⟩
def gTm (K : PySem.W.Frag) (n : Nat) (t : TGs) : TG := fun v σ H Q => match v with
  | .ref a => hUnp K a n H fun xs => t xs σ H Q
  | _ => False
theorem pg_tm {es : List Expr} {k : Nat} {t : TGs} {n : Nat} {pos : Pos} (hc : X.calm = true) (h : PGs X es t)
    (hn : (assignEach es X.env).length = n := by rfl) (hst : (assignEach es X.env).findIdx? (·.1) = none := by rfl) : PG X (.Tuple es k pos) (gTm X.K n t) := by
  intro pins s σ H v u Q I r hw
  cases v <;> first
    | exact (show False from hw).elim
    | skip
  rename_i a
  have hw := (show hUnp X.K a n H _ from hw)
  unfold hUnp at hw
  obtain ⟨xs, h1, h2, h3⟩ := hw
  exact pg_tup hc h hn hst pins s σ H _ u Q I r ⟨a, xs, rfl, h1, h2, h3⟩
def gNm : TGs := fun vs σ H Q => match vs with
  | [] => Q σ H
  | _ => False
def gCm (t : TG) (u : TGs) : TGs := fun vs σ H Q => match vs with
  | v :: r => t v σ H fun σ' H' => u r σ' H' Q
  | [] => False
theorem pgs_nm : PGs X [] gNm := by
  intro pins s σ H vs us Q I r h
  cases vs with
  | nil => exact pgs_nil pins s σ H _ us Q I r ⟨rfl, h⟩
  | cons v vs => exact (show False from h).elim
theorem pgs_cm {e : Expr} {es : List Expr} {t : TG} {u : TGs} (h1 : PG X e t) (h2 : PGs X es u)
    (hs : (assignEach (e :: es) X.env).map (·.2) = assign e X.env :: (assignEach es X.env).map (·.2) := by rfl) : PGs X (e :: es) (gCm t u) := by
  intro pins s σ H vs us Q I r h
  cases vs with
  | nil => exact (show False from h).elim
  | cons v vs => exact pgs_cons h1 h2 hs pins s σ H _ us Q I r ⟨v, vs, rfl, h⟩
end

/-! ### tests in readings -/
theorem dec2 {p A B : Prop} [Decidable p] (h1 : p → A) (h2 : ¬ p → B) : (decide p = true → A) ∧ (decide p = false → B) := ⟨fun h => h1 (of_decide_eq_true h), fun h => h2 (of_decide_eq_false h)⟩
theorem ndec2 {p A B : Prop} [Decidable p] (h1 : ¬ p → A) (h2 : p → B) : ((!decide p) = true → A) ∧ ((!decide p) = false → B) := ⟨fun h => h1 (by simpa using h), fun h => h2 (by simpa using h)⟩
theorem bT {A B : Prop} (h : A) : (true = true → A) ∧ (true = false → B) := ⟨fun _ => h, fun z => nomatch z⟩
theorem bF {A B : Prop} (h : B) : (false = true → A) ∧ (false = false → B) := ⟨fun z => (nomatch z), fun _ => h⟩
theorem b2 {b : Bool} {A B : Prop} (h1 : b = true → A) (h2 : b = false → B) : (b = true → A) ∧ (b = false → B) := ⟨h1, h2⟩
/-- a test whose outcome is known -/
theorem bIs {b : Bool} {A B : Prop} (hb : b = true) (h : A) : (b = true → A) ∧ (b = false → B) := ⟨fun _ => h, fun z => by rw [hb] at z; cases z⟩
theorem bNo {b : Bool} {A B : Prop} (hb : b = false) (h : B) : (b = true → A) ∧ (b = false → B) := ⟨fun z => (by rw [hb] at z; cases z), fun _ => h⟩
theorem dIs {p A B : Prop} [Decidable p] (hp : p) (h : A) : (decide p = true → A) ∧ (decide p = false → B) := bIs (decide_eq_true hp) h
end L2

set_option linter.all false
set_option Elab.async false
set_option maxRecDepth 100000
set_option maxHeartbeats 4000000
namespace L2
open PySem PySem.Spec PyProof.Rows
section
variable {X : Cx}
theorem any_plain {pos : Pos} {env : Env} : ∀ {es : List Expr}, es.all plainE = true → (backTo pos (starEach es env)).any (·.1) = false
  | [], _ => rfl
  | e :: es, h => by
    rw [List.all_cons, Bool.and_eq_true] at h
    rw [star_plain h.1]
    have := any_plain (pos := pos) (env := env) h.2
    simp only [backTo, List.map_cons, List.any_cons] at this ⊢
    rw [this]; rfl
theorem star_plains {env : Env} : ∀ {es : List Expr}, es.all plainE = true → starEach es env = es.map fun e => (false, eval e env)
  | [], _ => rfl
  | e :: es, h => by
    rw [List.all_cons, Bool.and_eq_true] at h
    rw [star_plain h.1, star_plains h.2]; rfl
def noComp : Expr → Bool
  | .ListComp .. => false
  | .SetComp .. => false
  | .DictComp .. => false
  | _ => true
theorem swaps_plain {e : Expr} {t : Option Expr} {n : Nat} {env : Env} (h : noComp e = true) : swapsWith e t n env = pure false := by
  cases e <;> first | rfl | cases h
theorem ps_st {i : Nat} {x : Str} {e : Expr} {te : TE} {pos pos' : Pos} (hN : X.N.Nodup) (hi : X.N[i]? = some x) (hx : Loc X.env.scope x) (he : PE X e te) (hs : noComp e = true := by rfl) (hf : X.fn x = true ∨ X.env.scope.names.lookup x = some .local := by first | exact .inl rfl | exact .inr rfl | assumption) :
    PS X (.Assign [.Name x pos'] e pos) (tAsg te (gName i)) := ps_set hN hi hx he (swaps_plain hs) hf
theorem ps_ex {e : Expr} {te : TE} {pos : Pos} (he : PE X e te) (hs : noComp e = true := by rfl) : PS X (.Expr e pos) (tDrop te) := ps_expr he (swaps_plain hs)
/-- a def that may be called by its name -/
structure Def (P : Program) (w : World) (K : PySem.W.Frag) (mg : Str → Option Value) (base : Heap) (k : Nat) (x : Str) (ps : List Str) (sp : Sp) : Prop where
  ex : ∃ f fd, FnOk P w K mg base CX0 k f fd ps sp ∧ Binds K fd ps [] ∧ PySem.W.keepIn K (.ref f) = true ∧ mg x = some (.ref f)
theorem pe_def {k j : Nat} {x : Str} {ps : List Str} {sp : Sp} {e : Expr} {es : List Expr} {t : TA} {p pos : Pos} (D : Def X.prog X.w X.K X.mg X.base k x ps sp) (hr : Room j X.A) (hj : k ≤ j) (hg : Gl X x) (ha : PA X (e :: es) t) (hp : (e :: es).all plainE = true := by rfl) (hdb : (x == ("__debug__" : Str)) = false := by decide) :
    PE X (.Call (.Name x p) (e :: es) [] pos) (tCall sp [] E0 t) := by
  obtain ⟨f, fd, F, b, kp, m⟩ := D.ex
  rw [List.all_cons, Bool.and_eq_true] at hp
  exact pe_call F (hr.mono hj) hg m kp b .nil pass0 ha (hdb := hdb) (he := star_plain hp.1) (hpl := any_plain hp.2)
theorem pe_cB {x : Str} {id : String} {r : List V → Hp → VK → Prop} {e : Expr} {es : List Expr} {t : TA} {p pos : Pos} (hc : CallR X (.builtin id) r) (hg : Gl X x) (hm : X.mg x = none) (hv : bootBuiltins x = some (.builtin id)) (ha : PA X (e :: es) t) (hp : (e :: es).all plainE = true := by rfl) (hn : x ≠ "__name__" := by decide) (hdb : (x == ("__debug__" : Str)) = false := by decide) :
    PE X (.Call (.Name x p) (e :: es) [] pos) (tCB r t) := by
  rw [List.all_cons, Bool.and_eq_true] at hp
  exact pe_callB hc hg hm hv ha hn hdb (star_plain hp.1) (any_plain hp.2)
theorem pe_cT {x : Str} {T : String} {r : List V → Hp → VK → Prop} {e : Expr} {es : List Expr} {t : TA} {p pos : Pos} (hc : CallR X (.type T) r) (hg : Gl X x) (hm : X.mg x = none) (hv : bootBuiltins x = some (.type T)) (ha : PA X (e :: es) t) (hp : (e :: es).all plainE = true := by rfl) (hn : x ≠ "__name__" := by decide) (hdb : (x == ("__debug__" : Str)) = false := by decide) :
    PE X (.Call (.Name x p) (e :: es) [] pos) (tCB r t) := by
  rw [List.all_cons, Bool.and_eq_true] at hp
  exact pe_callTy hc hg hm hv ha hn hdb (star_plain hp.1) (any_plain hp.2)
/-- xs.m(e) of a list, one argument -/
theorem few_plain {cpos : Pos} {e : Expr} {env : Env} (hp : plainE e = true) : ((backTo cpos (starEach [e] env)).all (fun x => !x.1) && (backToKw cpos (keywordEach [] env)).all (fun x => x.1.isSome)
      && decide (([e] : List Expr).length + ([] : List Keyword).length + (if ([] : List Keyword).isEmpty then 0 else 1) < 30)) = true := by
  rw [star_plain hp]; rfl
theorem pe_m1 {o e : Expr} {to te : TE} {name : Str} {apos cpos : Pos} {T id : String} {r : V → List V → Hp → VK → Prop} (pa : PlainAttrs T) (slot : Slot T name id) (hty : typeOf (.builtin id) = pure (.type "method_descriptor")) (hm : MtR X id r) (ho : PE X o to) (ha : PE X e te)
    (hp : plainE e = true := by rfl) (hbase : attributeBase o name X.env (eval o X.env) = eval o X.env := by rfl) (hline : (apos.endLine == cpos.line) = true := by rfl) :
    PE X (.Call (.Attribute o name apos) [e] [] cpos) (tBM X.K T r to (tCons te tNil)) :=
  pe_bm pa slot hty hm ho (pac ha pa_nil hp) hbase (few_plain hp) hline (star_plain hp) rfl
theorem pi_k1 {tg a : Expr} {ta : TA} {p pos : Pos} (hg : Gl X "range") (hm : X.mg "range" = none) (ha : PA X [a] ta) (hp : plainE a = true := by rfl) : PI X tg (.Call (.Name "range" p) [a] [] pos) (mRng1 ta) := pi_r1 hg hm ha (star_plain hp)
theorem pi_k3 {tg a b c : Expr} {ta : TA} {p pos : Pos} (hg : Gl X "range") (hm : X.mg "range" = none) (ha : PA X [a, b, c] ta) (hp : [a, b, c].all plainE = true := by rfl) : PI X tg (.Call (.Name "range" p) [a, b, c] [] pos) (mRngD ta) := by
  have h2 : [b, c].all plainE = true := by simp only [List.all_cons, List.all_nil, Bool.and_true, Bool.and_eq_true] at hp ⊢; exact hp.2
  exact pi_rd hg hm ha (star_plains hp) (star_plains h2)
theorem pi_ke {elts : List Expr} {x1 : Nat} {tpos : Pos} {l : Expr} {ta : TA} {p pos : Pos} (hg : Gl X "enumerate") (hm : X.mg "enumerate" = none) (ha : PA X [l] ta) (hp : plainE l = true := by rfl) : PI X (.Tuple elts x1 tpos) (.Call (.Name "enumerate" p) [l] [] pos) (mEnum X.K ta) := pi_en hg hm ha (star_plain hp)
def noSet : Expr → Bool
  | .Set .. => false
  | _ => true
theorem fold_plain {e : Expr} {env : Env} (h : noSet e = true) : ∀ x, foldedSetIterable e env x = pure x := by
  intro x; cases e <;> first | rfl | cases h
theorem ps_fr {tg iter : Expr} {body : List Stmt} {wi : TI} {g : TG} {tb : TS} {pos : Pos} (hp : PassesOwn (model X.prog X.w) X.A X.env X.xe) (hc : X.calm = true) (hi : PI X tg iter wi) (hg : PG X tg g) (hb : PSs X body tb)
    (hs : noSet iter = true := by rfl) : PS X (.For tg iter body [] pos) (tFor wi g tb) := ps_for hp hc hi hg hb (fold_plain hs)
def plainG : Expr → Bool
  | .Starred .. => false
  | _ => true
theorem assign_plain {e : Expr} {es : List Expr} {env : Env} (h : plainG e = true) : assignEach (e :: es) env = (false, assign e env) :: assignEach es env := by
  cases e <;> first | rfl | cases h
theorem pgs_c {e : Expr} {es : List Expr} {t : TG} {u : TGs} (h1 : PG X e t) (h2 : PGs X es u) (hp : plainG e = true := by rfl) : PGs X (e :: es) (gCm t u) := pgs_cm h1 h2 (by rw [assign_plain hp]; rfl)
theorem assign_plains {env : Env} : ∀ {es : List Expr}, es.all plainG = true → (assignEach es env).length = es.length ∧ (assignEach es env).findIdx? (·.1) = none
  | [], _ => ⟨rfl, rfl⟩
  | e :: es, h => by
    rw [List.all_cons, Bool.and_eq_true] at h
    obtain ⟨h1, h2⟩ := assign_plains (env := env) h.2
    rw [assign_plain h.1]
    refine ⟨by rw [List.length_cons, h1, List.length_cons], ?_⟩
    rw [List.findIdx?_cons, h2]; rfl
theorem pg_t {es : List Expr} {k : Nat} {t : TGs} {pos : Pos} (hc : X.calm = true) (h : PGs X es t) (hp : es.all plainG = true := by rfl) : PG X (.Tuple es k pos) (gTm X.K es.length t) := pg_tm hc h (assign_plains hp).1 (assign_plains hp).2
end
end L2

set_option linter.all false
set_option Elab.async false
set_option maxRecDepth 100000
set_option maxHeartbeats 4000000
namespace L2
open PySem PySem.Spec PyProof.Rows
/-! The judgements, sealed: a term of these rules is found without a look into the model. -/
structure QE (X : Cx) (e : Expr) (t : TE) : Prop where
  h : PE X e t
structure QT (X : Cx) (e : Expr) (t : TT) : Prop where
  h : PT X e t
structure QW (X : Cx) (e : Expr) (t : TT) : Prop where
  h : PW X e t
structure QA (X : Cx) (es : List Expr) (t : TA) : Prop where
  h : PA X es t
  p : es.all plainE = true
structure QS (X : Cx) (st : Stmt) (t : TS) : Prop where
  h : PS X st t
structure QB (X : Cx) (st : List Stmt) (t : TS) : Prop where
  h : PSs X st t
structure QG (X : Cx) (e : Expr) (t : TG) : Prop where
  h : PG X e t
structure QGs (X : Cx) (es : List Expr) (t : TGs) : Prop where
  h : PGs X es t
  p : es.all plainG = true
structure QI (X : Cx) (tg e : Expr) (t : TI) : Prop where
  h : PI X tg e t
structure QIf (X : Cx) (es : List Expr) (t : TT) : Prop where
  h : PIfs X es t
structure QO (X : Cx) (e : Option Expr) (t : TO) : Prop where
  h : PO X e t
section
variable {X : Cx} {e a b c o tg : Expr} {es rest : List Expr} {te ta tb tc to : TE} {t : TA} {pos p p2 : Pos} {st : Stmt} {sts : List Stmt} {x : Str}
/-! blocks -/
theorem qb_nil : QB X [] tNext := ⟨pss_nil⟩
theorem qb_one {u : TS} (h : QS X st u) : QB X [st] u := ⟨pss_one h.h⟩
theorem qb_cons {u v : TS} (h1 : QS X st u) (h2 : QB X sts v) : QB X (st :: sts) (tSeq u v) := ⟨pss_cons h1.h h2.h⟩
theorem qb_mid {u v : TS} (h1 : QS X st u) (h2 : QB X sts v) : QB X (st :: sts) (mMid u v) := ⟨pss_mid h1.h h2.h⟩
/-! statements -/
theorem qs_never : QS X st tNever := ⟨ps_never⟩
theorem qs_ret (h : QE X e te) : QS X (.Return (some e) pos) (tRet te) := ⟨ps_ret h.h⟩
theorem qs_ex (h : QE X e te) (hs : noComp e = true := by rfl) : QS X (.Expr e pos) (tDrop te) := ⟨ps_ex h.h hs⟩
theorem qs_set {i : Nat} (hN : X.N.Nodup) (hi : X.N[i]? = some x) (hx : Loc X.env.scope x) (hf : X.fn x = true ∨ X.env.scope.names.lookup x = some .local) (he : QE X e te) (hs : noComp e = true := by rfl) :
    QS X (.Assign [.Name x p] e pos) (tAsg te (gName i)) := ⟨ps_st hN hi hx he.h hs hf⟩
theorem qs_asg {g : TG} (he : QE X e te) (hg : QG X tg g) (hs : noComp e = true := by rfl) (hw : swappedStores [tg] e X.env = pure none := by rfl) (hp : plainG tg = true := by rfl) : QS X (.Assign [tg] e pos) (tAsg te g) :=
  ⟨ps_asg he.h hg.h (swaps_plain hs) hw (by rw [assign_plain hp]; rfl)⟩
theorem qs_aug {i : Nat} {op : Operator} {ti : TIp} (hN : X.N.Nodup) (hi : X.N[i]? = some x) (hx : Loc X.env.scope x) (hf : X.fn x = true ∨ X.env.scope.names.lookup x = some .local) (he : QE X e te) (ho : PIp X op ti) : QS X (.AugAssign (.Name x p) op e pos) (mAug i te ti) :=
  ⟨ps_augm hN hi hx he.h ho hf⟩
theorem qs_if {s1 s2 : List Stmt} {tc : TT} {u v : TS} (hc : QT X c tc) (ha : QB X s1 u) (hb : QB X s2 v) : QS X (.If c s1 s2 pos) (mIfS tc u v) := ⟨ps_ifm hc.h ha.h hb.h⟩
theorem qs_while {tc : TT} {u : TS} (hp : PassesOwn (model X.prog X.w) X.A X.env X.xe) (hc : QT X c tc) (hb : QB X sts u) : QS X (.While c sts [] pos) (mWhile tc u) := ⟨ps_whm hp hc.h hb.h⟩
theorem qs_for {wi : TI} {g : TG} {u : TS} (hp : PassesOwn (model X.prog X.w) X.A X.env X.xe) (hc : X.calm = true) (hi : QI X tg e wi) (hg : QG X tg g) (hb : QB X sts u) (hs : noSet e = true := by rfl) : QS X (.For tg e sts [] pos) (tFor wi g u) := ⟨ps_fr hp hc hi.h hg.h hb.h hs⟩
/-! targets -/
theorem qg_name {i : Nat} (hN : X.N.Nodup) (hi : X.N[i]? = some x) (hx : Loc X.env.scope x) (hf : X.fn x = true ∨ X.env.scope.names.lookup x = some .local) : QG X (.Name x pos) (gName i) := ⟨pg_name hN hi hx hf⟩
theorem qgs_nil : QGs X [] gNm := ⟨pgs_nm, rfl⟩
theorem qgs_cons {g : TG} {u : TGs} (h1 : QG X e g) (h2 : QGs X es u) (hp : plainG e = true := by rfl) : QGs X (e :: es) (gCm g u) := ⟨pgs_c h1.h h2.h hp, by rw [List.all_cons, hp, h2.p]; rfl⟩
theorem qg_tup {k : Nat} {u : TGs} (hc : X.calm = true) (h : QGs X es u) : QG X (.Tuple es k pos) (gTm X.K es.length u) := ⟨pg_t hc h.h h.p⟩
/-! what loops walk -/
theorem qi_list (h : QE X e te) : QI X tg e (mItL X.K te) := ⟨pi_lm h.h⟩
theorem qi_tup (h : QE X e te) : QI X tg e (mItT X.K te) := ⟨pi_tm h.h⟩
theorem qi_r1 (hg : Gl X "range") (hm : X.mg "range" = none) (h : QA X [a] t) : QI X tg (.Call (.Name "range" p) [a] [] pos) (mRng1 t) := ⟨pi_k1 hg hm h.h (by have := h.p; simpa using this)⟩
theorem qi_r3 (hg : Gl X "range") (hm : X.mg "range" = none) (h : QA X [a, b, c] t) : QI X tg (.Call (.Name "range" p) [a, b, c] [] pos) (mRngD t) := ⟨pi_k3 hg hm h.h h.p⟩
theorem qi_enum {k : Nat} (hg : Gl X "enumerate") (hm : X.mg "enumerate" = none) (h : QA X [a] t) : QI X (.Tuple es k p2) (.Call (.Name "enumerate" p) [a] [] pos) (mEnum X.K t) := ⟨pi_ke hg hm h.h (by have := h.p; simpa using this)⟩
/-! arguments -/
theorem qa_nil : QA X [] tNil := ⟨pa_nil, rfl⟩
theorem qa_cons (h1 : QE X e te) (h2 : QA X es t) (hp : plainE e = true := by rfl) : QA X (e :: es) (tCons te t) := ⟨pac h1.h h2.h hp, by rw [List.all_cons, hp, h2.p]; rfl⟩
/-! expressions -/
theorem qv (i : Nat) (hN : X.N[i]? = some x) (hv : Vis X.env.scope x) (hd : (x == ("__debug__" : Str)) = false := by decide) (hcd : (x == ("__classdict__" : Str)) = false := by decide) : QE X (.Name x pos) (mVar i) := ⟨mv i hN hv hd hcd⟩
theorem qe_int {i : Int} {j : Nat} : QE X (.Constant (.int i) j pos) (tC (.int i)) := ⟨pe_int⟩
theorem qe_bl {i : Bool} {j : Nat} : QE X (.Constant (.bool i) j pos) (tC (.bl i)) := ⟨pe_bl⟩
theorem qe_non {j : Nat} : QE X (.Constant .none j pos) (tC .non) := ⟨pe_non⟩
theorem qe_ty {T : String} (hg : Gl X x) (hm : X.mg x = none) (hv : bootBuiltins x = some (.type T)) (hn : x ≠ "__name__" := by decide) (hd : (x == ("__debug__" : Str)) = false := by decide) : QE X (.Name x pos) (tC (.ty T)) := ⟨pe_tyn hg hm hv hn hd⟩
theorem qe_op {op : Operator} {r : R2} (ho : OpR X (binaryOp op) r) (ha : QE X a ta) (hb : QE X b tb) : QE X (.BinOp a op b pos) (tOp r ta tb) := ⟨pe_op ho ha.h hb.h⟩
theorem qe_un {op : UnaryOp} {r : V → Hp → VK → Prop} (ho : UnR X (unaryOp op) r) (ha : QE X a ta) : QE X (.UnaryOp op a pos) (tUn r ta) := ⟨pe_un ho ha.h⟩
theorem qe_not (ha : QE X a ta) : QE X (.UnaryOp .Not a pos) (mNotV X.K ta) := ⟨pe_nm ha.h⟩
theorem qe_cmp {op : CmpOp} {r : R2} (ho : OpR X (compareOp op) r) (ha : QE X a ta) (hb : QE X b tb) (h1 : op ≠ .In := by decide) (h2 : op ≠ .NotIn := by decide) : QE X (.Compare a [op] [b] pos) (tOp r ta tb) := ⟨pe_cmpR ho ha.h hb.h (nomark b h1 h2)⟩
theorem qe_chain {op op' : CmpOp} {r r' : R2} (ho : OpR X (compareOp op) r) (ho' : OpR X (compareOp op') r') (ha : QE X a ta) (hb : QE X b tb) (hc : QE X c tc) (hm : lastMarks [op, op'] [b, c] = false := by with_unfolding_all rfl) : QE X (.Compare a [op, op'] [b, c] pos) (mChain r r' ta tb tc) := ⟨pe_chm ho ho' ha.h hb.h hc.h hm⟩
theorem qe_one {op : BoolOp} (h : QE X a ta) : QE X (.BoolOp op [a] pos) ta := ⟨pe_one h.h⟩
theorem qe_and (ha : QE X a ta) (hb : QE X (.BoolOp .And (b :: rest) pos) tb) : QE X (.BoolOp .And (a :: b :: rest) pos) (mAndV X.K ta tb) := ⟨pe_am ha.h hb.h⟩
theorem qe_lst (h : QA X es t) : QE X (.List es pos) (mLst t) := ⟨pe_lm h.h⟩
theorem qe_tup {k : Nat} (h : QA X es t) : QE X (.Tuple es k pos) (mTup t) := ⟨pe_tm h.h⟩
theorem qo_none : QO X none tNoPart := ⟨po_none⟩
theorem qo_some (h : QE X e te) : QO X (some e) (mPart te) := ⟨po_m h.h⟩
theorem qe_slice {lo hi : Option Expr} {tl th : TO} (he : QE X e te) (hl : QO X lo tl) (hu : QO X hi th) : QE X (.Subscript e (.Slice lo hi none p2) pos) (tSl (vSl X.K) te tl th) := ⟨pe_slice slM he.h hl.h hu.h⟩
theorem qe_ix (ha : QE X a ta) (hb : QE X b tb) (hs : PlainIx b) : QE X (.Subscript a b pos) (tOp (vIx X.K) ta tb) := ⟨pe_ix ixM ha.h hb.h hs⟩
theorem qe_def {k j : Nat} {ps : List Str} {sp : Sp} (D : Def X.prog X.w X.K X.mg X.base k x ps sp) (hr : Room j X.A) (hj : k ≤ j) (hg : Gl X x) (ha : QA X (e :: es) t) (hdb : (x == ("__debug__" : Str)) = false := by decide) : QE X (.Call (.Name x p) (e :: es) [] pos) (tCall sp [] E0 t) := ⟨pe_def D hr hj hg ha.h ha.p hdb⟩
theorem qe_cB {id : String} {r : List V → Hp → VK → Prop} (hc : CallR X (.builtin id) r) (hg : Gl X x) (hm : X.mg x = none) (hv : bootBuiltins x = some (.builtin id)) (ha : QA X (e :: es) t) (hn : x ≠ "__name__" := by decide) (hdb : (x == ("__debug__" : Str)) = false := by decide) : QE X (.Call (.Name x p) (e :: es) [] pos) (tCB r t) := ⟨pe_cB hc hg hm hv ha.h ha.p hn hdb⟩
theorem qe_cT {T : String} {r : List V → Hp → VK → Prop} (hc : CallR X (.type T) r) (hg : Gl X x) (hm : X.mg x = none) (hv : bootBuiltins x = some (.type T)) (ha : QA X (e :: es) t) (hn : x ≠ "__name__" := by decide) (hdb : (x == ("__debug__" : Str)) = false := by decide) : QE X (.Call (.Name x p) (e :: es) [] pos) (tCB r t) := ⟨pe_cT hc hg hm hv ha.h ha.p hn hdb⟩
theorem qe_m1 {name : Str} {T id : String} {r : V → List V → Hp → VK → Prop} (pa : PlainAttrs T) (slot : Slot T name id) (hty : typeOf (.builtin id) = pure (.type "method_descriptor")) (hm : MtR X id r) (ho : QE X o to) (ha : QE X e te)
    (hp : plainE e = true := by rfl) (hbase : attributeBase o name X.env (eval o X.env) = eval o X.env := by rfl) (hline : (p.endLine == pos.line) = true := by rfl) : QE X (.Call (.Attribute o name p) [e] [] pos) (tBM X.K T r to (tCons te tNil)) := ⟨pe_m1 pa slot hty hm ho.h ha.h hp hbase hline⟩
/-! tests -/
theorem qt_cmp {op : CmpOp} {r : R2} (ho : OpR X (compareOp op) r) (ha : QE X a ta) (hb : QE X b tb) (h1 : op ≠ .In := by decide) (h2 : op ≠ .NotIn := by decide) : QT X (.Compare a [op] [b] pos) (mB (tOp r ta tb)) := ⟨pt_cm ho ha.h hb.h (nomark b h1 h2)⟩
theorem qw_and1 {tA : TT} (ha : QT X a tA) : QW X (.BoolOp .And [a] pos) tA := ⟨pw_and1 ha.h⟩
theorem qw_or1 {tA : TT} (ha : QT X a tA) : QW X (.BoolOp .Or [a] pos) tA := ⟨pw_or1 ha.h⟩
theorem qw_and {tA tB' : TT} (ha : QT X a tA) (hb : QW X (.BoolOp .And (b :: rest) pos) tB') : QW X (.BoolOp .And (a :: b :: rest) pos) (mAnd tA tB') := ⟨pw_am ha.h hb.h⟩
theorem qw_or {tA tB' : TT} (ha : QT X a tA) (hb : QW X (.BoolOp .Or (b :: rest) pos) tB') : QW X (.BoolOp .Or (a :: b :: rest) pos) (mOr tA tB') := ⟨pw_om ha.h hb.h⟩
theorem QW.pt {tA : TT} (h : QW X a tA) : QT X a tA := ⟨h.h.pt⟩
theorem qt_not {tA : TT} (ha : QT X a tA) : QT X (.UnaryOp .Not a pos) (tNot tA) := ⟨pt_not ha.h⟩
theorem qt_val (ha : QE X a ta) (he : ∀ whole, isTrue a X.env whole = (do let v ← whole; standAt a.pos; holding [v] (truthy v)) := by intro _; rfl) : QT X a (mT X.K ta) := ⟨pt_m ha.h he⟩
/-! comprehensions -/
theorem qif_nil : QIf X [] tYes := ⟨pifs_nil⟩
theorem qe_comp (N' : List Str) (caps : List (Option Nat)) {elt iter : Expr} {ifs : List Expr} {scope : Scope} {wi : TI} {g : TG} {tt : TT} (hc : X.calm = true) (hi : QI X tg iter wi)
    (hg : ∀ pins cl C s0 H0 fp, QG (cxComp X pins N' scope cl C s0 H0 fp) tg g) (ht : ∀ pins cl C s0 H0 fp, QIf (cxComp X pins N' scope cl C s0 H0 fp) ifs tt) (he : ∀ pins cl C s0 H0 fp, QE (cxComp X pins N' scope cl C s0 H0 fp) elt te)
    (hcap : capOk N' caps X.N X.env.scope.names scope.names = true := by kernel_rfl) (hkind : scope.kind = .function := by rfl) (hs : noSet iter = true := by rfl) :
    QE X (.ListComp elt [⟨tg, iter, ifs, 0⟩] scope pos) (tComp caps wi g tt te) :=
  ⟨pe_comp N' caps hc hi.h (fun a b c d e f => (hg a b c d e f).h) (fun a b c d e f => (ht a b c d e f).h) (fun a b c d e f => (he a b c d e f).h) hcap hkind (fold_plain hs)⟩
end
/-- the rule for a def, by a sealed body -/
theorem Fun.okq {P : Program} {w : World} {K : PySem.W.Frag} {mg : Str → Option Value} {base : Heap} {x qual : Str} {st : Stmt} {f : Addr} {fd : FuncData} {N ps : List Str} {k : Nat} {sp : Sp} (F : Fun K x qual st f fd) (S : FnScope N ps (defScope st)) (len : ∀ vs H Q E, sp vs H Q E → vs.length = ps.length)
    (hbody : ∀ (cdv : Value) (A : Around) (outer : List Env) (s : Shared) (H : Hp) (vs : List V) (Q : VK) (E : XK), Room k (A.deeper (envOfC qual (defScope st) s.heap.objs.size f cdv)) → sp vs H Q E →
      ∃ T : { t : TS // QB (cxOf CX0 P w K mg base N qual (defScope st) f cdv A outer s H E).nox (defBody st) t }, T.1 { nx := fun _ H' => Q .non H', rt := Q } (start N vs) H) : FnOk P w K mg base CX0 (k + 1) f fd ps sp :=
  F.ok S len fun cdv A outer s H vs Q E hr h => let ⟨T, q⟩ := hbody cdv A outer s H vs Q E hr h; ⟨T.1, T.2.h, q⟩
end L2

set_option linter.all false
set_option Elab.async false
set_option maxRecDepth 100000
set_option maxHeartbeats 4000000
namespace L2
open PySem PySem.Spec PyProof.Rows
/-! ### readings, closed upward -/
def upE (t : TE) : TE := fun σ H Q => ∃ P : VK, t σ H P ∧ ∀ v H1, P v H1 → Q v H1
def upT (t : TT) : TT := fun σ H Q => ∃ P : Bool → Hp → Prop, t σ H P ∧ ∀ v H1, P v H1 → Q v H1
def upG (t : TG) : TG := fun v σ H Q => ∃ P : St → Hp → Prop, t v σ H P ∧ ∀ σ1 H1, P σ1 H1 → Q σ1 H1
section
variable {X : Cx} {e a b c tg : Expr} {te : TE} {pos p p2 : Pos} {x : Str}
theorem QE.up (h : QE X e te) : QE X e (upE te) := ⟨by
  intro pins s σ H Q I w
  obtain ⟨P, w, hP⟩ := w
  exact thn (h.h pins s σ H P I w) fun u s1 ⟨v, H1, I1, r1, q1⟩ => ⟨v, H1, I1, r1, hP _ _ q1⟩⟩
theorem QIf.up {es : List Expr} {tt : TT} (h : QIf X es tt) : QIf X es (upT tt) := ⟨by
  intro pins s σ H Q I w
  obtain ⟨P, w, hP⟩ := w
  exact thn (h.h pins s σ H P I w) fun u s1 ⟨H1, I1, q1⟩ => ⟨H1, I1, hP _ _ q1⟩⟩
theorem QG.up {g : TG} (h : QG X e g) : QG X e (upG g) := ⟨by
  intro pins s σ H v u Q I r w
  obtain ⟨P, w, hP⟩ := w
  exact thn (h.h pins s σ H v u P I r w) fun u s1 ⟨σ1, H1, I1, q1⟩ => ⟨σ1, H1, I1, hP _ _ q1⟩⟩
theorem qe_cp (N' : List Str) (caps : List (Option Nat)) {elt iter : Expr} {ifs : List Expr} {scope : Scope} {wi : TI} {g : TG} {tt : TT} (hc : X.calm = true) (hi : QI X tg iter wi)
    (hg : ∀ pins cl C s0 H0 fp, QG (cxComp X pins N' scope cl C s0 H0 fp) tg g) (ht : ∀ pins cl C s0 H0 fp, QIf (cxComp X pins N' scope cl C s0 H0 fp) ifs tt) (he : ∀ pins cl C s0 H0 fp, QE (cxComp X pins N' scope cl C s0 H0 fp) elt te)
    (hcap : capOk N' caps X.N X.env.scope.names scope.names = true := by kernel_rfl) (hkind : scope.kind = .function := by rfl) (hs : noSet iter = true := by rfl) :
    QE X (.ListComp elt [⟨tg, iter, ifs, 0⟩] scope pos) (tComp caps wi (upG g) (upT tt) (upE te)) :=
  qe_comp N' caps hc hi (fun a b c d e f => (hg a b c d e f).up) (fun a b c d e f => (ht a b c d e f).up) (fun a b c d e f => (he a b c d e f).up) hcap hkind hs
end
/-- one turn of a comprehension, the new list at D -/
def Turn1 (g : TG) (tt : TT) (te : TE) (D : Addr) (ys : List V) (x : V) (σ : St) (H : Hp) (N : St → Hp → List V → Prop) : Prop :=
  g x σ H fun σ2 H3 => tt σ2 H3 fun b H4 => (b = true → te σ2 H4 fun v H5 => H5 D = some (.lst ys) ∧ ys.length < sizeLine ∧ ∀ H6, Kp [D] H5 H6 → H6 D = some (.lst (ys ++ [v])) → N σ2 H6 (ys ++ [v])) ∧ (b = false → H4 D = some (.lst ys) ∧ N σ2 H4 ys)
theorem turn1_ok {g : TG} {tt : TT} {te : TE} {D : Addr} {ys : List V} {x : V} {σ : St} {H : Hp} {N : St → Hp → List V → Prop} {M : St → Hp → Prop} (h : Turn1 g tt te D ys x σ H N) (hM : ∀ σ H ys, H D = some (.lst ys) → N σ H ys → M σ H) :
    upG g x σ H fun σ2 H3 => upT tt σ2 H3 fun b H4 => if b = true then upE te σ2 H4 fun v H5 => ∃ ys, H5 D = some (.lst ys) ∧ ys.length < sizeLine ∧ M σ2 (upd H5 D (.lst (ys ++ [v]))) else M σ2 H4 := by
  refine ⟨_, h, fun σ2 H3 h => ⟨_, h, fun b H4 h => ?_⟩⟩
  cases b with
  | true => exact iteT ⟨_, h.1 rfl, fun v H5 q => ⟨ys, q.1, q.2.1, hM _ _ _ upd_same (q.2.2 _ kp_upd upd_same)⟩⟩
  | false => exact iteF (hM _ _ _ (h.2 rfl).1 (h.2 rfl).2)
section
variable {g : TG} {tt : TT} {te : TE} {σ0 : St} {H1 : Hp} {Q : Addr → Hp → Prop} {K : PySem.W.Frag}
theorem comp_rng {lo : Int} {n : Nat} (R : Nat → Addr → St → Hp → List V → Prop)
    (h0 : ∀ D H', H1 D = none → Same H1 H' → H' D = some (.lst []) → R 0 D σ0 H' [])
    (hs : ∀ i D σ H ys, i < n → H1 D = none → R i D σ H ys → H D = some (.lst ys) → Turn1 g tt te D ys (.int (lo + i)) σ H (R (i + 1) D))
    (hd : ∀ D σ H ys, H1 D = none → R n D σ H ys → H D = some (.lst ys) → Q D H) : ∀ D, H1 D = none → compRead (Itr lo n) D (upG g) (upT tt) (upE te) σ0 (upd H1 D (.lst [])) fun H2 => Q D H2 := by
  intro D hD
  refine comp_range (fun i σ H => ∃ ys, H D = some (.lst ys) ∧ R i D σ H ys) ⟨[], upd_same, h0 D _ hD (same_upd hD) upd_same⟩ ?_ ?_
  · rintro i σ H hi ⟨ys, e, r⟩
    exact turn1_ok (hs i D σ H ys hi hD r e) fun σ H ys e r => ⟨ys, e, r⟩
  · rintro σ H ⟨ys, e, r⟩
    exact hd D σ H ys hD r e
theorem comp_lst {a : Addr} (xs : List V) (R : Nat → Addr → St → Hp → List V → Prop)
    (h0 : ∀ D H', H1 D = none → Same H1 H' → H' D = some (.lst []) → R 0 D σ0 H' [])
    (hl : ∀ i D σ H ys, H1 D = none → R i D σ H ys → SqL K H a xs)
    (hs : ∀ i x D σ H ys, xs[i]? = some x → H1 D = none → R i D σ H ys → H D = some (.lst ys) → Turn1 g tt te D ys x σ H (R (i + 1) D))
    (hd : ∀ D σ H ys, H1 D = none → R xs.length D σ H ys → H D = some (.lst ys) → Q D H) : ∀ D, H1 D = none → compRead (Itl K a) D (upG g) (upT tt) (upE te) σ0 (upd H1 D (.lst [])) fun H2 => Q D H2 := by
  intro D hD
  refine comp_list (xs := xs) (fun i σ H => ∃ ys, H D = some (.lst ys) ∧ R i D σ H ys) ⟨[], upd_same, h0 D _ hD (same_upd hD) upd_same⟩ ?_ ?_ ?_
  · rintro i σ H _ ⟨ys, e, r⟩
    exact hl i D σ H ys hD r
  · rintro i x σ H hi ⟨ys, e, r⟩
    exact turn1_ok (hs i x D σ H ys hi hD r e) fun σ H ys e r => ⟨ys, e, r⟩
  · rintro σ H ⟨ys, e, r⟩
    exact hd D σ H ys hD r e
end
end L2
namespace L2
open PySem
theorem Kp.new {S : List Addr} {H H5 H6 : Hp} {D : Addr} (k : Kp S H H5) (k6 : Kp [D] H5 H6) (hD : H D = none) : Kp S H H6 := fun b o n q => k6.one (ne_of_none q hD) (k b o n q)
theorem Same.new {H H5 H6 : Hp} {D : Addr} (k : Same H H5) (k6 : Kp [D] H5 H6) (hD : H D = none) : Same H H6 := fun b o q => k6.one (ne_of_none q hD) (k b o q)
theorem Kp.same {S : List Addr} {H H5 H6 : Hp} (k : Kp S H H5) (s : Same H5 H6) : Kp S H H6 := fun b o n q => s b o (k b o n q)
theorem sz_of {n : Nat} (h : n ≤ 100000) : n ≤ sizeLine := by rw [sizeLine_eq]; omega
theorem sz_lt {n : Nat} (h : n ≤ 100000) : n < sizeLine := by rw [sizeLine_eq]; omega
theorem map_snoc (zs : List Int) (z : Int) : zs.map V.int ++ [V.int z] = (zs ++ [z]).map V.int := by rw [List.map_append]; rfl
theorem vints_at {zs : List Int} {i : Nat} {x : V} (h : (zs.map V.int)[i]? = some x) : ∃ z, x = .int z ∧ zs[i]? = some z ∧ z ∈ zs := by
  rw [List.getElem?_map] at h
  cases e : zs[i]? with
  | none => rw [e] at h; cases h
  | some z =>
    rw [e] at h
    exact ⟨z, (Option.some.inj h).symm, rfl, List.mem_of_getElem? e⟩
end L2

set_option linter.all false
set_option Elab.async false
set_option maxRecDepth 100000
set_option maxHeartbeats 4000000
namespace L2
open PySem PySem.Spec PyProof.Rows
/-! ### data that is shown -/
def intsD (ns : List Int) : PyData := .list (ns.map PyData.int)
theorem paired_ints {H : Hp} (n : Nat) : ∀ ns : List Int, Paired (RV n H) (ns.map V.int) (ns.map PyData.int)
  | [] => .nil
  | k :: ns => .cons (by cases n <;> rfl) (paired_ints n ns)
theorem rv_ints {H : Hp} {a : Addr} {ns : List Int} (h : H a = some (.lst (ns.map V.int))) : RV 1 H (.ref a) (intsD ns) := .inl ⟨_, _, .inl h, rfl, paired_ints 0 ns⟩
/-! ### loops, the heap unnamed -/
section
variable {g : TG} {tb : TS} {D : Ends} {σ : St} {H : Hp} {K : PySem.W.Frag}
/-- over enumerate(list), the list left as it is -/
theorem for_en {a : Addr} (xs : List V) (Pv : Nat → St → Hp → Prop) (h0 : Pv 0 σ H) (hl : ∀ i σ H, i ≤ xs.length → Pv i σ H → SqL K H a xs)
    (hs : ∀ i x σ H T H', xs[i]? = some x → Pv i σ H → H T = none → Same H H' → H' T = some (.tup [.int i, x]) → g (.ref T) σ H' fun σ2 H2 => tb { D with nx := Pv (i + 1), ct := Pv (i + 1), bk := D.nx } σ2 H2) (hd : ∀ σ H, Pv xs.length σ H → D.nx σ H) :
    ∃ W : Nat → Nat → St → Hp → Prop, (∃ m, W 0 m σ H) ∧ ∀ i m σ H, W i m σ H →
      ((Ite K a).stop i H ∧ D.nx σ H) ∨ ((Ite K a).go i H ∧ ∃ N : St → Hp → Prop, (∀ σ' H', N σ' H' → ∃ m', m' < m ∧ W (i + 1) m' σ' H') ∧ ∀ x H', (Ite K a).yld i H x H' → g x σ H' fun σ2 H2 => tb { D with nx := N, ct := N, bk := D.nx } σ2 H2) :=
  for_enum (xs := xs) Pv h0 hl (fun i x σ H T hx p hT => hs i x σ H T _ hx p hT (same_upd hT) upd_same) hd
end
theorem take_snoc {α : Type} {l : List α} {i : Nat} {x : α} (h : l[i]? = some x) : l.take (i + 1) = l.take i ++ [x] := by rw [List.take_add_one, h]; rfl
theorem i_isi {K : PySem.W.Frag} {H : Hp} {Q : VK} {x : V} {t c : String} (ty : TyOf K H x (.type t)) (ht : t ∈ ["NoneType", "bool", "int", "str", "list", "tuple", "dict"]) (hc : c ∈ ["bool", "int", "str", "list", "tuple", "dict"]) (q : Q (.bl (isTy t c)) H) : hIsi K x c H Q := by
  unfold hIsi; exact ⟨t, ty, ht, hc, q⟩
end L2

set_option linter.all false
set_option Elab.async false
set_option maxRecDepth 100000
set_option maxHeartbeats 4000000
namespace L2
open PySem PySem.Spec PyProof.Rows
/-! ### zip over two lists -/
def Itz (K : PySem.W.Frag) (a b : Addr) : It :=
  ⟨fun i H => ∃ xs ys x y, SqL K H a xs ∧ SqL K H b ys ∧ xs[i]? = some x ∧ ys[i]? = some y,
   fun i H v H' => ∃ (T : Addr) (x y : V), H T = none ∧ v = .ref T ∧ H' = upd H T (.tup [x, y]) ∧ (∀ xs, SqL K H a xs → xs[i]? = some x) ∧ ∀ ys, SqL K H b ys → ys[i]? = some y,
   fun i H => ∃ xs ys, SqL K H a xs ∧ SqL K H b ys ∧ (xs.length ≤ i ∨ ys.length ≤ i)⟩
theorem turn_zip {P : Program} {w : World} {K : PySem.W.Frag} {elts : List Expr} {x1 : Nat} {pos : Pos} (a b z TI TO i1 i2 : Addr) (D : ZipApart z TI TO i1 i2 a b) :
    Turn P w K (.Tuple elts x1 pos) (Itz K a b) [z, TI, TO, i1, i2] z (fun i h => IsZip h z TI TO .none ∧ IsPair h TI (.ref i1) (.ref i2) ∧ (∃ p q, IsPair h TO p q) ∧ h.IsListIter i1 a i ∧ h.IsListIter i2 b i) where
  mem := by simp
  obj := fun i h st c hc => by
    obtain ⟨hz, hTI, ⟨p, q, hTO⟩, h1, h2⟩ := st
    simp only [List.mem_cons, List.not_mem_nil, or_false] at hc
    rcases hc with rfl | rfl | rfl | rfl | rfl
    · exact ⟨_, hz, fun v x => by have x' : Data.fields _ = Data.cell v := x; cases x'⟩
    · exact ⟨_, hTI, fun v x => by have x' : Data.seq _ _ = Data.cell v := x; cases x'⟩
    · exact ⟨_, hTO, fun v x => by have x' : Data.seq _ _ = Data.cell v := x; cases x'⟩
    · obtain ⟨o, q, _, d⟩ := h1; exact ⟨o, q, fun v x => by rw [d] at x; cases x⟩
    · obtain ⟨o, q, _, d⟩ := h2; exact ⟨o, q, fun v x => by rw [d] at x; cases x⟩
  keep := fun i h h' st k => by
    obtain ⟨hz, hTI, ⟨p, q, hTO⟩, h1, h2⟩ := st
    exact ⟨k z (by simp) _ hz, k TI (by simp) _ hTI, ⟨p, q, k TO (by simp) _ hTO⟩, h1.at fun o e => k i1 (by simp) o e, h2.at fun o e => k i2 (by simp) o e⟩
  item := by
    intro X hP hw hK hc i pins s σ H E I hf st hg
    subst hP hw hK
    obtain ⟨hz, hTI, ⟨p, q, hTO⟩, h1, h2⟩ := st
    obtain ⟨xs, ys, x, y, hqx, hqy, hx, hy⟩ := hg
    obtain ⟨its, rv, pl, hsz⟩ := I.list hqx
    obtain ⟨jts, rw', ql, hsz'⟩ := I.list hqy
    obtain ⟨u, hu, ru⟩ := rv.get hx
    obtain ⟨t, ht, rt⟩ := rw'.get hy
    refine wpAny_pyNext_zip_item D hz hTI hTO h1 h2 pl.isList ql.isList (x := u) (y := t) (by simpa using hu) (by simpa using ht) fun h₁ a1 a2 a3 a4 a5 a6 hk₁ => ?_
    refine ⟨_, rfl, wpAny_letOwnedTupleGo_zip a1 fun h₂ hz₂ hs₂ => ?_⟩
    replace hs₂ : Heap.SameBut z h₁ h₂ := hs₂
    have hT : H s.heap.objs.size = none := I.hok.fresh (Nat.le_refl _)
    have lt : ∀ {c o}, s.heap.get? c = some o → c ≠ s.heap.objs.size := fun e => Nat.ne_of_lt (Heap.lt_size e)
    have ht₂ : h₂.get? s.heap.objs.size = some { cls := .type "tuple", data := .seq #[u, t] } := (hs₂.2 _ (Ne.symm (lt hz))).trans a5
    have nch : ∀ c, c ∉ [z, TI, TO, i1, i2] → c ≠ z ∧ c ≠ TI ∧ c ≠ TO ∧ c ≠ i1 ∧ c ≠ i2 := fun c hc => by simpa using hc
    have kk : ∀ c o, c ∉ [z, TI, TO, i1, i2] → s.heap.get? c = some o → h₂.get? c = some o := fun c o hc e => by
      obtain ⟨n1, n2, n3, n4, n5⟩ := nch c hc
      exact (hs₂.2 c n1).trans (hk₁ c o n1 n3 n4 n5 e)
    have nE : ∀ c o, H c = some o → c ∉ [z, TI, TO, i1, i2] := fun c o e hc => by rw [(hf c hc).1] at e; cases e
    have I1 : Inv X pins σ (upd H s.heap.objs.size (.tup [x, y])) { s with heap := h₂, gens := s.gens, drawn := s.drawn, toks := s.toks } := by
      refine I.step (ch := [z, TI, TO, i1, i2]) (fun c hc => ?_) (fun c o _ _ hc e _ => kk c o hc e) (fun c o _ _ hc e _ => ⟨o.slots, kk c o hc e⟩) (fun c o _ e n => by rw [upd_ne (lt e)]; exact n)
        (fun c o hc e => ⟨o, kk c o hc e⟩) (fun c zs e => by rw [upd_ne (ne_of_none e hT)]; exact e) (fun c o u e => by rw [upd_ne (ne_of_none e hT)]; exact e) (fun c ps e => ⟨#[], by rw [upd_ne (ne_of_none e hT), e]; simp⟩) (fun m hm => ?_) (fun c v e => ?_) I.bare
      · obtain ⟨f0, f1, f2, f3, f4, f5⟩ := hf c hc; exact ⟨f3, f1, f4, f5⟩
      · obtain ⟨o, es, ep, ho, r⟩ := hm
        exact ⟨o, es, ep, kk _ o (fun hc => (hf _ hc).2.1 rfl) ho, r⟩
      · by_cases hb : c = s.heap.objs.size
        · subst hb
          rw [upd_same] at e
          cases e
          exact ⟨(by show 2 ≤ sizeLine; rw [sizeLine_eq]; decide), [u, t], .cons ru (.cons rt .nil), _, ht₂, rfl, 0, rfl⟩
        · rw [upd_ne hb] at e
          refine (I.hok c v e).stay (fun d o hd q' => ?_) (fun d q' => by rw [upd_ne (ne_of_none q' hT)]; exact q') fun d zs q' => by rw [upd_ne (ne_of_none q' hT)]; exact q'
          rcases hd with rfl | hd
          · exact kk d o (nE d v e) q'
          · exact kk d o (nE d _ hd) q'
    refine ⟨.ref s.heap.objs.size, _, I1, rfl, ⟨s.heap.objs.size, x, y, hT, rfl, rfl, fun zs hz => by rw [I.list_inj hz hqx]; exact hx, fun zs hz => by rw [I.list_inj hz hqy]; exact hy⟩, ⟨hz₂, ?_, ⟨u, t, ?_⟩, ?_, ?_⟩, fun c hc => ?_⟩
    · exact hs₂.extBut _ _ D.TIz (hk₁ _ _ D.TIz D.TITO D.TIi1 D.TIi2 hTI)
    · exact hs₂.extBut _ _ D.TOz a2
    · exact a3.extBut hs₂.extBut D.i1z
    · exact a4.extBut hs₂.extBut D.i2z
    · have hcl : c < s.heap.objs.size := by
        simp only [List.mem_cons, List.not_mem_nil, or_false] at hc
        rcases hc with rfl | rfl | rfl | rfl | rfl
        · exact Heap.lt_size hz
        · exact Heap.lt_size hTI
        · exact Heap.lt_size hTO
        · obtain ⟨o, e, _⟩ := h1; exact Heap.lt_size e
        · obtain ⟨o, e, _⟩ := h2; exact Heap.lt_size e
      rw [upd_ne (Nat.ne_of_lt hcl)]
      exact (hf c hc).1
  done := by
    intro X hP hw hK hc i pins s σ H E I hf st hg
    subst hP hw hK
    obtain ⟨hz, hTI, ⟨p, q, hTO⟩, h1, h2⟩ := st
    obtain ⟨xs, ys, hqx, hqy, hx⟩ := hg
    obtain ⟨its, rv, pl, hsz⟩ := I.list hqx
    obtain ⟨jts, rw', ql, hsz'⟩ := I.list hqy
    have hl := rv.length
    have hl' := rw'.length
    refine wpAny_pyNext_zip_end (I.ok.hd hc) D hz hTI hTO h1 h2 pl.isList ql.isList (by simp; omega) fun h' hk => ⟨rfl, ?_⟩
    have kk : ∀ c o, c ∉ [z, TI, TO, i1, i2] → s.heap.get? c = some o → h'.get? c = some o := fun c o hc e => by
      obtain ⟨n1, n2, n3, n4, n5⟩ : c ≠ z ∧ c ≠ TI ∧ c ≠ TO ∧ c ≠ i1 ∧ c ≠ i2 := by simpa using hc
      exact hk c o n1 n3 n4 n5 e
    have nE : ∀ c o, H c = some o → c ∉ [z, TI, TO, i1, i2] := fun c o e hc => by rw [(hf c hc).1] at e; cases e
    refine I.step (g' := s.gens) (d' := s.drawn) (t' := s.toks) (ch := [z, TI, TO, i1, i2]) (fun c hc => ?_) (fun c o _ _ hc e _ => kk c o hc e) (fun c o _ _ hc e _ => ⟨o.slots, kk c o hc e⟩) (fun c o _ e n => n)
        (fun c o hc e => ⟨o, kk c o hc e⟩) (fun c zs e => e) (fun c o u e => e) (fun c ps e => ⟨#[], by rw [e]; simp⟩) (fun m hm => ?_) (fun c v e => ?_) I.bare
    · obtain ⟨f0, f1, f2, f3, f4, f5⟩ := hf c hc; exact ⟨f3, f1, f4, f5⟩
    · obtain ⟨o, es, ep, ho, r⟩ := hm
      exact ⟨o, es, ep, kk _ o (fun hc => (hf _ hc).2.1 rfl) ho, r⟩
    · refine (I.hok c v e).stay (fun d o hd q' => ?_) (fun d q' => q') fun d zs q' => q'
      rcases hd with rfl | hd
      · exact kk d o (nE d v e) q'
      · exact kk d o (nE d _ hd) q'
  self := fun A i s Q E st h => wpAny_pyIter_zip st.1 h
theorem zip_apart (n a b : Nat) (ha : a < n) (hb : b < n) : ZipApart (n + 4) (n + 2) (n + 3) n (n + 1) a b :=
  ⟨show (n + 2 : Nat) ≠ n + 4 by omega, show (n + 3 : Nat) ≠ n + 4 by omega, show (n : Nat) ≠ n + 4 by omega, show (n + 1 : Nat) ≠ n + 4 by omega, show (n + 2 : Nat) ≠ n + 3 by omega, show (n + 2 : Nat) ≠ n by omega, show (n + 2 : Nat) ≠ n + 1 by omega, show (n + 3 : Nat) ≠ n by omega, show (n + 3 : Nat) ≠ n + 1 by omega, show (n : Nat) ≠ n + 1 by omega,
   show (a : Nat) ≠ n + 4 by omega, show (a : Nat) ≠ n + 3 by omega, show (a : Nat) ≠ n by omega, show (a : Nat) ≠ n + 1 by omega, show (b : Nat) ≠ n + 4 by omega, show (b : Nat) ≠ n + 3 by omega, show (b : Nat) ≠ n by omega, show (b : Nat) ≠ n + 1 by omega⟩
theorem boot_zip : bootBuiltins "zip" = some (.type "zip") := by decide +kernel
section
variable {X : Cx}
def mZip (K : PySem.W.Frag) (ta : TA) : TI := fun σ H R => ta σ H fun vs H1 => match vs with
  | [.ref a, .ref b] => (∃ xs, SqL K H1 a xs) ∧ (∃ ys, SqL K H1 b ys) ∧ R (Itz K a b) H1
  | _ => False
theorem qi_zip {es : List Expr} {k : Nat} {tpos : Pos} {l m : Expr} {ta : TA} {p pos : Pos} (hg : Gl X "zip") (hm : X.mg "zip" = none) (ha : QA X [l, m] ta) : QI X (.Tuple es k tpos) (.Call (.Name "zip" p) [l, m] [] pos) (mZip X.K ta) := ⟨by
  intro pins s σ H R I h
  have hp := ha.p
  have h2 : [m].all plainE = true := by simp only [List.all_cons, List.all_nil, Bool.and_true, Bool.and_eq_true] at hp ⊢; exact hp.2
  have h1 : plainE l = true := by simp only [List.all_cons, List.all_nil, Bool.and_true, Bool.and_eq_true] at hp; exact hp.1
  refine Call_ (ld_blt I hg hm boot_zip (PyProof.Rows.callWith_type1 (thn (ha.h pos pins s σ H _ I h) fun us s1 ⟨vs, H1, I1, r1, q1⟩ => ?_) (star_plain h1) (any_plain h2)))
  dsimp only at q1
  split at q1
  · rename_i a b
    obtain ⟨⟨xs, hxs⟩, ⟨ys, hys⟩, q⟩ := q1
    cases r1 with
    | cons ra rr =>
      cases rr with
      | cons rb rr =>
        cases rr
        cases ra
        cases rb
        obtain ⟨its, rv, pl, hz⟩ := I1.list hxs
        obtain ⟨jts, rw', ql, hz'⟩ := I1.list hys
        refine call_zip_2 pl.isList ql.isList fun h' a1 a2 a3 a4 a5 a6 hk => ?_
        have I2 : Inv X pins σ H1 { s1 with heap := h' } := I1.kept (t' := s1.toks) hk
        have la : a < s1.heap.objs.size := by obtain ⟨o, e, _⟩ := pl.isList; exact Heap.lt_size e
        have lb : b < s1.heap.objs.size := by obtain ⟨o, e, _⟩ := ql.isList; exact Heap.lt_size e
        have D : ZipApart (s1.heap.objs.size + 4) (s1.heap.objs.size + 2) (s1.heap.objs.size + 3) s1.heap.objs.size (s1.heap.objs.size + 1) a b := by
          exact zip_apart _ a b la lb
        refine wpAny_pyIter_zip a1 ⟨s1.heap.objs.size + 4, _, _, Itz X.K a b, H1, rfl, I2, turn_zip a b _ _ _ _ _ D, ⟨a1, a2, ⟨_, _, a3⟩, a4, a5⟩, fun c hc => ?_, q⟩
        have hc' : s1.heap.objs.size ≤ c := by
          simp only [List.mem_cons, List.not_mem_nil, or_false] at hc
          rcases hc with rfl | rfl | rfl | rfl | rfl
          · exact Nat.le_add_right _ _
          · exact Nat.le_add_right _ _
          · exact Nat.le_add_right _ _
          · exact Nat.le_refl _
          · exact Nat.le_add_right _ _
        exact I1.fpOk hc' (I1.hok.fresh hc')
  · exact q1.elim⟩
end
section
variable {g : TG} {tt : TT} {te : TE} {σ0 : St} {H1 : Hp} {Q : Addr → Hp → Prop} {K : PySem.W.Frag}
theorem comp_zip {a b : Addr} (xs ys : List V) (hlen : xs.length = ys.length) (R : Nat → Addr → St → Hp → List V → Prop)
    (h0 : ∀ D H', H1 D = none → Same H1 H' → H' D = some (.lst []) → R 0 D σ0 H' [])
    (hl : ∀ i D σ H zs, H1 D = none → R i D σ H zs → SqL K H a xs ∧ SqL K H b ys)
    (hs : ∀ i x y T D σ H H' zs, xs[i]? = some x → ys[i]? = some y → H1 D = none → R i D σ H zs → H D = some (.lst zs) → H T = none → Same H H' → H' T = some (.tup [x, y]) → Turn1 g tt te D zs (.ref T) σ H' (R (i + 1) D))
    (hd : ∀ D σ H zs, H1 D = none → R xs.length D σ H zs → H D = some (.lst zs) → Q D H) : ∀ D, H1 D = none → compRead (Itz K a b) D (upG g) (upT tt) (upE te) σ0 (upd H1 D (.lst [])) fun H2 => Q D H2 := by
  intro D hD
  refine ⟨fun i m σ H => m = xs.length - i ∧ i ≤ xs.length ∧ ∃ zs, H D = some (.lst zs) ∧ R i D σ H zs, ⟨xs.length, by simp, Nat.zero_le _, [], upd_same, h0 D _ hD (same_upd hD) upd_same⟩, ?_⟩
  rintro i m σ H ⟨rfl, hi, zs, e, r⟩
  obtain ⟨q1, q2⟩ := hl i D σ H zs hD r
  by_cases hlt : i < xs.length
  · have hlt2 : i < ys.length := by omega
    refine .inr ⟨⟨xs, ys, xs[i], ys[i], q1, q2, by simp [hlt], by simp [hlt2]⟩, fun σ H => ∃ zs, H D = some (.lst zs) ∧ R (i + 1) D σ H zs, fun σ' H' p' => ⟨xs.length - (i + 1), by omega, rfl, hlt, p'⟩, fun x H' y => ?_⟩
    obtain ⟨T, v, w', hT, rfl, rfl, y1, y2⟩ := y
    exact turn1_ok (hs i v w' T D σ H _ zs (y1 xs q1) (y2 ys q2) hD r e hT (same_upd hT) upd_same) fun σ H zs e r => ⟨zs, e, r⟩
  · have ei : i = xs.length := by omega
    subst ei
    exact .inl ⟨⟨xs, ys, q1, q2, .inl (Nat.le_refl _)⟩, hd D σ H zs hD r e⟩
end
end L2

set_option linter.all false
set_option Elab.async false
set_option maxRecDepth 100000
set_option maxHeartbeats 4000000
namespace L2
open PySem PySem.Spec PyProof.Rows
/-! The rules that speak of the written part, with it named. -/
section
variable {X : Cx} {K : PySem.W.Frag} {e a b c o tg : Expr} {es rest : List Expr} {te ta tb tc to : TE} {t : TA} {pos p p2 : Pos} {x : Str}
theorem kg_tup {k : Nat} {u : TGs} (hK : X.K = K) (hc : X.calm = true) (h : QGs X es u) : QG X (.Tuple es k pos) (gTm K es.length u) := hK ▸ qg_tup hc h
theorem ki_list (hK : X.K = K) (h : QE X e te) : QI X tg e (mItL K te) := hK ▸ qi_list h
theorem ki_tup (hK : X.K = K) (h : QE X e te) : QI X tg e (mItT K te) := hK ▸ qi_tup h
theorem ki_enum {k : Nat} (hK : X.K = K) (hg : Gl X "enumerate") (hm : X.mg "enumerate" = none) (h : QA X [a] t) : QI X (.Tuple es k p2) (.Call (.Name "enumerate" p) [a] [] pos) (mEnum K t) := hK ▸ qi_enum hg hm h
theorem ki_zip {k : Nat} (hK : X.K = K) (hg : Gl X "zip") (hm : X.mg "zip" = none) (h : QA X [a, b] t) : QI X (.Tuple es k p2) (.Call (.Name "zip" p) [a, b] [] pos) (mZip K t) := hK ▸ qi_zip hg hm h
theorem ke_not (hK : X.K = K) (ha : QE X a ta) : QE X (.UnaryOp .Not a pos) (mNotV K ta) := hK ▸ qe_not ha
theorem ke_and (hK : X.K = K) (ha : QE X a ta) (hb : QE X (.BoolOp .And (b :: rest) pos) tb) : QE X (.BoolOp .And (a :: b :: rest) pos) (mAndV K ta tb) := hK ▸ qe_and ha hb
theorem ke_slice {lo hi : Option Expr} {tl th : TO} (hK : X.K = K) (he : QE X e te) (hl : QO X lo tl) (hu : QO X hi th) : QE X (.Subscript e (.Slice lo hi none p2) pos) (tSl (vSl K) te tl th) := hK ▸ qe_slice he hl hu
theorem ke_ix (hK : X.K = K) (ha : QE X a ta) (hb : QE X b tb) (hs : PlainIx b) : QE X (.Subscript a b pos) (tOp (vIx K) ta tb) := hK ▸ qe_ix ha hb hs
theorem ke_m1 {name : Str} {T id : String} {r : V → List V → Hp → VK → Prop} (hK : X.K = K) (pa : PlainAttrs T) (slot : Slot T name id) (hty : typeOf (.builtin id) = pure (.type "method_descriptor")) (hm : MtR X id r) (ho : QE X o to) (ha : QE X e te)
    (hp : plainE e = true := by rfl) (hbase : attributeBase o name X.env (eval o X.env) = eval o X.env := by rfl) (hline : (p.endLine == pos.line) = true := by rfl) : QE X (.Call (.Attribute o name p) [e] [] pos) (tBM K T r to (tCons te tNil)) := hK ▸ qe_m1 pa slot hty hm ho ha hp hbase hline
theorem kt_val (hK : X.K = K) (ha : QE X a ta) (he : ∀ whole, isTrue a X.env whole = (do let v ← whole; standAt a.pos; holding [v] (truthy v)) := by intro _; rfl) : QT X a (mT K ta) := hK ▸ qt_val ha he
theorem kSum (hK : X.K = K) (hc : X.calm = true) : CallR X (.builtin "sum") (vSum K) := hK ▸ callSum hc
theorem kMax (hK : X.K = K) (hc : X.calm = true) : CallR X (.builtin "max") (vMax K) := hK ▸ callMax hc
theorem kMin (hK : X.K = K) (hc : X.calm = true) : CallR X (.builtin "min") (vMin K) := hK ▸ callMin hc
theorem kLen (hK : X.K = K) : CallR X (.builtin "len") (vLen K) := hK ▸ callLen
theorem kSorted (hK : X.K = K) : CallR X (.builtin "sorted") (vSorted K) := hK ▸ callSorted
theorem kIsi (hK : X.K = K) : CallR X (.builtin "isinstance") (vIsi K) := hK ▸ callIsi
def vClr : V → List V → Hp → VK → Prop := fun x vs H Q => match x, vs with
  | .ref a, [] => hClr a H Q
  | _, _ => False
end
/-! ### == and != of things that read as one -/
section
variable {X : Cx}
theorem paired_at {α β : Type} {R : α → β → Prop} : ∀ {xs : List α} {ys : List β}, Paired R xs ys → ∀ (j : Nat) {x : α} {y : β}, xs[j]? = some x → ys[j]? = some y → R x y
  | _, _, .nil, j, _, _, h, _ => by simp at h
  | _, _, .cons r t, 0, _, _, h1, h2 => by simp at h1 h2; subst h1; subst h2; exact r
  | _, _, .cons r t, j + 1, _, _, h1, h2 => paired_at t j (by simpa using h1) (by simpa using h2)
theorem all_true (n : Nat) : ((List.range n).all fun _ => true) = true := by simp
theorem seq_same {pins : List (Addr × Obj)} {σ : St} {H : Hp} {s : Shared} {n : Nat} {A : Around} {xs ys : List V} {us vs : List Value} {ds : List PyData}
    (ih : ∀ (x y : V) (u v : Value) (d : PyData), RV n H x d → RV n H y d → RelV x u → RelV y v → SeqAt.EqAt A s u v true) (p1 : Paired (RV n H) xs ds) (p2 : Paired (RV n H) ys ds) (r1 : Vals xs us) (r2 : Vals ys vs) :
    us.toArray.size = vs.toArray.size ∧ ∀ j (h1 : j < us.toArray.size) (h2 : j < vs.toArray.size), SeqAt.EqAt A s us.toArray[j] vs.toArray[j] ((fun _ => true) j) := by
  have l1 := Paired.length p1
  have l2 := Paired.length p2
  have l3 := Paired.length r1
  have l4 := Paired.length r2
  refine ⟨by simp only [List.size_toArray]; omega, fun j h1 h2 => ?_⟩
  have h1' : j < us.length := by simpa using h1
  have h2' : j < vs.length := by simpa using h2
  have hx : j < xs.length := by omega
  have hy : j < ys.length := by omega
  have hd : j < ds.length := by omega
  exact ih xs[j] ys[j] _ _ ds[j] (paired_at p1 j (List.getElem?_eq_getElem hx) (List.getElem?_eq_getElem hd)) (paired_at p2 j (List.getElem?_eq_getElem hy) (List.getElem?_eq_getElem hd))
    (paired_at r1 j (List.getElem?_eq_getElem hx) (by simp [h1'])) (paired_at r2 j (List.getElem?_eq_getElem hy) (by simp [h2']))
/-- the parts of a thing that reads as data -/
inductive RdP (n : Nat) (H : Hp) (h : Heap) (a : Addr) : PyData → Prop where
  | lst {xs : List V} {us : List Value} {ds : List PyData} (p : Paired (RV n H) xs ds) (r : Vals xs us) (l : h.IsList a us.toArray) : RdP n H h a (.list ds)
  | tup {xs : List V} {us : List Value} {ds : List PyData} (p : Paired (RV n H) xs ds) (r : Vals xs us) (l : h.IsTuple a us.toArray) : RdP n H h a (.tuple ds)
theorem rdP_of {pins : List (Addr × Obj)} {σ : St} {H : Hp} {s : Shared} (I : Inv X pins σ H s) {n : Nat} {a : Addr} {d : PyData} (h : RV (n + 1) H (.ref a) d) : RdP n H s.heap a d := by
  rcases (show (∃ xs ds, Rd H a (.lst xs) ∧ d = .list ds ∧ Paired (RV n H) xs ds) ∨ ∃ xs ds, Rd H a (.tup xs) ∧ d = .tuple ds ∧ Paired (RV n H) xs ds from h) with ⟨xs, ds, h1, rfl, h3⟩ | ⟨xs, ds, h1, rfl, h3⟩
  · obtain ⟨us, r, p, _⟩ := I.list (.inl h1)
    exact .lst h3 r p.isList
  · obtain ⟨us, r, p, _⟩ := I.tuple (.inl h1)
    exact .tup h3 r p
def flatD : V → Option PyData
  | .non => some .none
  | .bl b => some (.bool b)
  | .int i => some (.int i)
  | .str x => some (.str x)
  | _ => none
theorem rv_scal {n : Nat} {H : Hp} {x : V} {d : PyData} (h : RV n H x d) (hx : ∀ a, x ≠ .ref a) : flatD x = some d := by
  cases x with
  | non => have e : d = .none := by cases n <;> exact h
           rw [e]; rfl
  | bl b => have e : d = .bool b := by cases n <;> exact h
            rw [e]; rfl
  | int i => have e : d = .int i := by cases n <;> exact h
             rw [e]; rfl
  | str i => have e : d = .str i := by cases n <;> exact h
             rw [e]; rfl
  | ref a => exact absurd rfl (hx a)
  | byt b => cases n <;> exact (show False from h).elim
  | flt b => cases n <;> exact (show False from h).elim
  | ty b => cases n <;> exact (show False from h).elim
theorem rv_ref {n : Nat} {H : Hp} {a : Addr} {d : PyData} (h : RV n H (.ref a) d) : (∃ ds, d = .list ds) ∨ ∃ ds, d = .tuple ds := by
  cases n with
  | zero => exact (show False from h).elim
  | succ n =>
    rcases (show (∃ xs ds, Rd H a (.lst xs) ∧ d = .list ds ∧ Paired (RV n H) xs ds) ∨ ∃ xs ds, Rd H a (.tup xs) ∧ d = .tuple ds ∧ Paired (RV n H) xs ds from h) with ⟨xs, ds, _, e, _⟩ | ⟨xs, ds, _, e, _⟩
    · exact .inl ⟨ds, e⟩
    · exact .inr ⟨ds, e⟩
theorem flat_no {x : V} {d : PyData} (h : flatD x = some d) : (∀ ds, d ≠ .list ds) ∧ ∀ ds, d ≠ .tuple ds := by
  cases x <;> simp [flatD] at h <;> subst h <;> exact ⟨fun ds e => (by cases e), fun ds e => (by cases e)⟩
theorem flat_inj {x y : V} {d : PyData} (h1 : flatD x = some d) (h2 : flatD y = some d) : x = y := by
  cases x <;> simp [flatD] at h1 <;> subst h1 <;> cases y <;> simp [flatD] at h2 <;> first | rfl | (subst h2; rfl)
theorem both_flat {n : Nat} {H : Hp} {x y : V} {d : PyData} (h1 : RV n H x d) (h2 : RV n H y d) (hx : ∀ a, x ≠ .ref a) : x = y := by
  have f1 := rv_scal h1 hx
  refine flat_inj f1 (rv_scal h2 fun b e => ?_)
  subst e
  rcases rv_ref h2 with ⟨ds, e⟩ | ⟨ds, e⟩
  · exact (flat_no f1).1 ds e
  · exact (flat_no f1).2 ds e
theorem rel_same {x : V} {u v : Value} {d : PyData} {A : Around} {s : Shared} (hf : flatD x = some d) (r1 : RelV x u) (r2 : RelV x v) : SeqAt.EqAt A s u v true := by
  cases x with
  | non => cases r1; cases r2; exact SeqAt.EqAt.same _
  | bl b => cases r1; cases r2; exact SeqAt.EqAt.same _
  | int i =>
    obtain ⟨t, rfl⟩ := r1
    obtain ⟨t', rfl⟩ := r2
    have := SeqAt.EqAt.int_int (A := A) (s := s) i t i t'
    rw [beq_self_eq_true] at this
    exact this
  | str i =>
    obtain ⟨t, rfl⟩ := r1
    obtain ⟨t', rfl⟩ := r2
    have := SeqAt.EqAt.str_str (A := A) (s := s) i t i t'
    rw [beq_self_eq_true] at this
    exact this
  | _ => cases hf
theorem rv_flat {n : Nat} {H : Hp} {x y : V} {u v : Value} {d : PyData} {A : Around} {s : Shared} (h1 : RV n H x d) (h2 : RV n H y d) (r1 : RelV x u) (r2 : RelV y v) (hx : ∀ a, x ≠ .ref a) : SeqAt.EqAt A s u v true := by
  have e := both_flat h1 h2 hx
  subst e
  exact rel_same (rv_scal h1 hx) r1 r2
theorem eqAt_rv {pins : List (Addr × Obj)} {σ : St} {H : Hp} {s : Shared} (I : Inv X pins σ H s) : ∀ (n : Nat) (A : Around), A.units + n < cLine → ∀ (x y : V) (u v : Value) (d : PyData), RV n H x d → RV n H y d → RelV x u → RelV y v → SeqAt.EqAt A s u v true := by
  intro n
  induction n with
  | zero =>
    intro A hA x y u v d h1 h2 r1 r2
    refine rv_flat h1 h2 r1 r2 fun a e => ?_
    subst e
    exact (show False from h1)
  | succ n ih =>
    intro A hA x y u v d h1 h2 r1 r2
    by_cases hx : ∃ a, x = .ref a
    · obtain ⟨a, rfl⟩ := hx
      by_cases hy : ∃ b, y = .ref b
      · obtain ⟨b, rfl⟩ := hy
        cases r1
        cases r2
        by_cases hab : a = b
        · subst hab; exact SeqAt.EqAt.same _
        have ih' := ih A.in1 (by show A.units + 1 + n < cLine; omega)
        have hu : A.units < cLine := by omega
        cases rdP_of I h1 with
        | lst p1 q1 l1 =>
          cases rdP_of I h2 with
          | lst p2 q2 l2 =>
            obtain ⟨z1, z2⟩ := seq_same (pins := pins) (σ := σ) ih' p1 p2 q1 q2
            have := SeqAt.RcAt.lists (A := A) l1 l2 z1 hu z2
            rw [all_true] at this
            exact SeqAt.EqAt.of_refs hab this
        | tup p1 q1 l1 =>
          cases rdP_of I h2 with
          | tup p2 q2 l2 =>
            obtain ⟨z1, z2⟩ := seq_same (pins := pins) (σ := σ) ih' p1 p2 q1 q2
            have := SeqAt.RcAt.tuples (A := A) l1 l2 hu z2
            rw [all_true, z1, beq_self_eq_true] at this
            exact SeqAt.EqAt.of_refs hab this
      · exact absurd ⟨a, (both_flat h2 h1 fun b e => hy ⟨b, e⟩)⟩ hy
    · exact rv_flat h1 h2 r1 r2 fun a e => hx ⟨a, e⟩
@[irreducible] def hEqR (K : PySem.W.Frag) (a b : Addr) (H : Hp) (Q : Bool → Hp → Prop) : Prop := hEqL K a b H Q ∨ ∃ n d, n ≤ 20 ∧ RV (n + 1) H (.ref a) d ∧ RV (n + 1) H (.ref b) d ∧ Q true H
theorem i_eqD {K : PySem.W.Frag} {a b : Addr} {H : Hp} {Q : Bool → Hp → Prop} {d : PyData} (n : Nat) (hn : n ≤ 20) (h1 : RV (n + 1) H (.ref a) d) (h2 : RV (n + 1) H (.ref b) d) (q : Q true H) : hEqR K a b H Q := by unfold hEqR; exact .inr ⟨n, d, hn, h1, h2, q⟩
theorem i_eqI {K : PySem.W.Frag} {a b : Addr} {H : Hp} {Q : Bool → Hp → Prop} {ns ms : List Int} (h1 : SqL K H a (ns.map V.int)) (h2 : SqL K H b (ms.map V.int)) (q : Q (decide (ns = ms)) H) : hEqR K a b H Q := by unfold hEqR; exact .inl (i_eqL h1 h2 q)
def vEqG (K : PySem.W.Frag) (n : Bool → Bool) : R2 := fun x y H Q => match x, y with
  | .int i, .int j => Q (.bl (n (decide (i = j)))) H
  | .str i, .str j => Q (.bl (n (decide (i = j)))) H
  | .bl i, .bl j => Q (.bl (n (decide (i = j)))) H
  | .non, .non => Q (.bl (n true)) H
  | .non, .int _ => Q (.bl (n false)) H
  | .int _, .non => Q (.bl (n false)) H
  | .non, .bl _ => Q (.bl (n false)) H
  | .bl _, .non => Q (.bl (n false)) H
  | .ref a, .ref b => hEqR K a b H fun r H' => Q (.bl (n r)) H'
  | _, _ => False
theorem kEqG {K : PySem.W.Frag} {k : Nat} (hK : X.K = K) (hr : Room k X.A) : OpR X (compareOp .Eq) (vEqG K id) := by
  subst hK
  intro pins s σ H x y v u Q I rx ry h
  cases x <;> cases y <;> first
    | exact (show False from h).elim
    | exact op_eq pins s σ H _ _ v u Q I rx ry ⟨rfl, by rw [dI]; exact h⟩
    | exact op_eq pins s σ H _ _ v u Q I rx ry ⟨rfl, by rw [dS]; exact h⟩
    | exact op_eq pins s σ H _ _ v u Q I rx ry ⟨rfl, by rw [dB]; exact h⟩
    | exact op_eq pins s σ H _ _ v u Q I rx ry ⟨rfl, h⟩
    | skip
  rename_i a b
  have h := (show hEqR X.K a b H _ from h)
  unfold hEqR at h
  rcases h with h | ⟨n, d, hn, h1, h2, q⟩
  · unfold hEqL at h; obtain ⟨xs, ys, h1, h2, h3⟩ := h; exact op_eqI hr pins s σ H _ _ v u Q I rx ry ⟨_, _, xs, ys, rfl, rfl, h1, h2, h3⟩
  · cases rx
    cases ry
    have hu := hr.units
    have ih := eqAt_rv I n X.A.in1 (by show X.A.units + 1 + n < cLine; omega)
    cases rdP_of I h1 with
    | lst p1 q1 l1 =>
      cases rdP_of I h2 with
      | lst p2 q2 l2 =>
        obtain ⟨z1, z2⟩ := seq_same (pins := pins) (σ := σ) ih p1 p2 q1 q2
        exact SeqAt.eq_listAt l1 l2 z1 (by omega) z2 (by rw [all_true]; exact ⟨.bl true, H, I, rfl, q⟩)
    | tup p1 q1 l1 =>
      cases rdP_of I h2 with
      | tup p2 q2 l2 =>
        obtain ⟨z1, z2⟩ := seq_same (pins := pins) (σ := σ) ih p1 p2 q1 q2
        exact SeqAt.eq_tupleAt l1 l2 (by omega) z2 (by rw [all_true, z1, beq_self_eq_true]; exact ⟨.bl true, H, I, rfl, q⟩)
theorem kNeG {K : PySem.W.Frag} {k : Nat} (hK : X.K = K) (hr : Room k X.A) : OpR X (compareOp .NotEq) (vEqG K not) := by
  subst hK
  intro pins s σ H x y v u Q I rx ry h
  cases x <;> cases y <;> first
    | exact (show False from h).elim
    | exact op_ne pins s σ H _ _ v u Q I rx ry ⟨rfl, by rw [dI]; exact h⟩
    | exact op_ne pins s σ H _ _ v u Q I rx ry ⟨rfl, by rw [dS]; exact h⟩
    | exact op_ne pins s σ H _ _ v u Q I rx ry ⟨rfl, by rw [dB]; exact h⟩
    | exact op_ne pins s σ H _ _ v u Q I rx ry ⟨rfl, h⟩
    | skip
  rename_i a b
  have h := (show hEqR X.K a b H _ from h)
  unfold hEqR at h
  have hu := hr.units
  rcases h with h | ⟨n, d, hn, h1, h2, q⟩
  · unfold hEqL at h
    obtain ⟨ns, ms, h1, h2, qq⟩ := h
    cases rx; cases ry
    obtain ⟨its, r1, p1, _⟩ := I.list h1
    obtain ⟨its2, r2, p2, _⟩ := I.list h2
    have i1 := intsAre_of r1
    have i2 := intsAre_of r2
    have l1 := r1.length
    have l2 := r2.length
    rw [List.length_map] at l1 l2
    by_cases hl : ns.length = ms.length
    · refine SeqAt.RcNeAt.lists (e := fun j => decide (ns.getD j 0 = ms.getD j 0)) p1.isList p2.isList (by simp only [List.size_toArray]; omega) hr.units0 (fun j a1 a2 => ?_) _ _ _ _ ?_
      · obtain ⟨t1, e1⟩ := ints_at i1 j a1
        obtain ⟨t2, e2⟩ := ints_at i2 j a2
        rw [e1, e2]
        have := SeqAt.EqAt.int_int (A := X.A.in1) (s := s) (ns.getD j 0) t1 (ms.getD j 0) t2
        rw [Bool.beq_eq_decide_eq] at this
        exact this
      · rw [show its.toArray.size = ns.length by simp only [List.size_toArray]; omega, all_range_eq ns ms hl]
        exact ⟨.bl _, H, I, rfl, qq⟩
    · refine SeqAt.RcNeAt.lists_lengths p1.isList p2.isList (by simp only [List.size_toArray, bne_iff_ne]; omega) hr.units0 _ _ _ _ ⟨.bl true, H, I, rfl, ?_⟩
      have : decide (ns = ms) = false := decide_eq_false fun e => hl (by rw [e])
      rw [this] at qq
      exact qq
  · cases rx
    cases ry
    have ih := eqAt_rv I n X.A.in1 (by show X.A.units + 1 + n < cLine; omega)
    cases rdP_of I h1 with
    | lst p1 q1 l1 =>
      cases rdP_of I h2 with
      | lst p2 q2 l2 =>
        obtain ⟨z1, z2⟩ := seq_same (pins := pins) (σ := σ) ih p1 p2 q1 q2
        exact SeqAt.RcNeAt.lists l1 l2 z1 (by omega) z2 _ _ _ _ (by rw [all_true]; exact ⟨.bl false, H, I, rfl, q⟩)
    | tup p1 q1 l1 =>
      cases rdP_of I h2 with
      | tup p2 q2 l2 =>
        obtain ⟨z1, z2⟩ := seq_same (pins := pins) (σ := σ) ih p1 p2 q1 q2
        exact SeqAt.RcNeAt.tuples l1 l2 (by omega) z2 _ _ _ _ (by rw [all_true, z1, beq_self_eq_true]; exact ⟨.bl false, H, I, rfl, q⟩)
end
end L2

set_option linter.all false
set_option Elab.async false
set_option maxRecDepth 100000
set_option maxHeartbeats 4000000
namespace L2
open PySem PySem.Spec PyProof.Rows
/-! ### range as a value, list(range(..)) -/
section
variable {X : Cx}
end
end L2

set_option linter.all false
set_option Elab.async false
set_option maxRecDepth 100000
set_option maxHeartbeats 4000000
namespace L2
open PySem PySem.Spec PyProof.Rows
/-! ### xs[::-1] -/
section
variable {X : Cx} {e st : Expr} {te : TE} {ts : TO} {p2 pos : Pos} {K : PySem.W.Frag}
@[irreducible] def hRev (K : PySem.W.Frag) (a : Addr) (H : Hp) (Q : VK) : Prop := ∃ xs, SqL K H a xs ∧ ∀ p, H p = none → Q (.ref p) (upd H p (.lst xs.reverse))
theorem i_rev {a : Addr} {H : Hp} {Q : VK} {xs : List V} (h : SqL K H a xs) (q : ∀ p H', H p = none → Same H H' → H' p = some (.lst xs.reverse) → Q (.ref p) H') : hRev K a H Q := by
  unfold hRev; exact ⟨xs, h, fun p hp => q p _ hp (same_upd hp) upd_same⟩
def mRev (K : PySem.W.Frag) (te : TE) (ts : TO) : TE := fun σ H Q => te σ H fun x H1 => ts σ H1 fun s H2 => match x, s with
  | .ref a, some k => k = -1 ∧ hRev K a H2 Q
  | _, _ => False
theorem Vals.rev : ∀ {xs : List V} {us : List Value}, Vals xs us → Vals xs.reverse us.reverse
  | _, _, .nil => .nil
  | _, _, .cons r t => by rw [List.reverse_cons, List.reverse_cons]; exact (Vals.rev t).append (.cons r .nil)
theorem qe_rev (hK : X.K = K) (he : QE X e te) (hs : QO X (some st) ts) (hsub : ∀ v sl, subscripted (.Slice none none (some st) p2) false v sl = operate [v, sl] (getItem v sl) := by intro _ _; rfl) : QE X (.Subscript e (.Slice none none (some st) p2) pos) (mRev K te ts) := ⟨by
  subst hK
  intro pins s σ H Q I h
  refine Subscript_ (thn (he.h pins s σ H _ I h) fun v s1 ⟨x, H1, I1, r1, q1⟩ => ?_)
  refine wpAny_Slice ?_
  rw [evalPart_none]
  refine wpAny_pure ?_
  refine wpAny_pure ?_
  refine thn (hs.h pins s1 σ H1 _ I1 q1) fun vk s2 ⟨k, H2, I2, pk, q2⟩ => ?_
  have I3 : Inv X pins σ H2 { s2 with heap := s2.heap.push { cls := .type "slice", data := .fields #[.none, .none, vk] } } := I2.kept (t' := s2.toks) fun b ob q => Heap.get?_push_of_some _ q
  cases x with
  | ref a =>
    cases k with
    | none => exact (show False from q2).elim
    | some k =>
      obtain ⟨rfl, q⟩ := (show k = -1 ∧ hRev X.K a H2 Q from q2)
      unfold hRev at q
      obtain ⟨xs, hx, q⟩ := q
      cases r1
      obtain ⟨its, r, ht, hz⟩ := I3.list hx
      have hlen := r.length
      have hg : wpAny (model X.prog X.w) X.A (getItem (.ref a) (.ref s2.heap.objs.size)) (EP X pins σ Q) X.xe { s2 with heap := s2.heap.push { cls := .type "slice", data := .fields #[.none, .none, vk] } } := by
        refine wpAny_getItem_list_slice ht.isList (Heap.IsSliceOf.new ..) .none .none pk (by decide) ?_ (by rw [List.size_toArray]; omega)
        rw [PySem.W.krv_pick]
        refine ⟨.ref _, _, I3.laid (t' := s2.toks) (o := .lst xs.reverse) (fun b ob q => Heap.get?_push_of_some _ q) (Nat.le_refl _) ?_, rfl, q _ (I3.hok.fresh (Nat.le_refl _))⟩
        exact ⟨by rw [List.length_reverse]; exact hz, _, 0, Vals.rev r, Heap.get?_push_size _ rfl⟩
      exact tail_any (ops := [.ref a, .ref s2.heap.objs.size]) (ht.isList.typeIs) slot_list_getitem.lookup hg (hsub _ _)
  | _ => exact (show False from q2).elim⟩
end
end L2

set_option linter.all false
set_option Elab.async false
set_option maxRecDepth 100000
set_option maxHeartbeats 4000000
namespace L2
open PySem PySem.Spec PyProof.Rows
/-! ### a = b = e; names unpacked out of a list -/
section
variable {X : Cx} {K : PySem.W.Frag} {e t1 t2 : Expr} {es : List Expr} {te : TE} {pos p p2 : Pos}
end
end L2

set_option linter.all false
set_option Elab.async false
set_option maxRecDepth 100000
set_option maxHeartbeats 4000000
namespace L2
open PySem PySem.Spec PyProof.Rows
/-! ### xs.pop(i), abs -/
section
variable {X : Cx}
@[irreducible] def hPopAt (a : Addr) (i : Int) (H : Hp) (Q : VK) : Prop := ∃ xs k y, H a = some (.lst xs) ∧ -(2 ^ 63) ≤ i ∧ i < 2 ^ 63 ∧ seqIndex? i xs.length = some k ∧ xs[k]? = some y ∧ Q y (upd H a (.lst (xs.eraseIdx k)))
def vPopAt : V → List V → Hp → VK → Prop := fun x vs H Q => match x, vs with
  | .ref a, [.int i] => hPopAt a i H Q
  | _, _ => False
theorem mtPopAt : MtM X "list.pop" vPopAt := by
  intro pins s σ H x vs v us Q I rx rv h
  unfold vPopAt at h
  split at h
  · unfold hPopAt at h; obtain ⟨xs, k, y, h1, h2, h3, h4, h5, h6⟩ := h; exact mt_popAt pins s σ H _ _ v us Q I rx rv ⟨_, xs, _, k, y, rfl, rfl, h1, h2, h3, h4, h5, h6⟩
  · exact h.elim
theorem i_popAt {a : Addr} {i : Int} {H : Hp} {Q : VK} {xs : List V} {y : V} (k : Nat) (h : H a = some (.lst xs)) (hi : i = k) (hk : k < 1000000) (e : xs[k]? = some y) (q : ∀ H', Kp [a] H H' → H' a = some (.lst (xs.eraseIdx k)) → Q y H') : hPopAt a i H Q := by
  have hl : k < xs.length := (List.getElem?_eq_some_iff.mp e).1
  subst hi
  unfold hPopAt
  refine ⟨xs, k, y, h, by omega, by omega, ?_, e, q _ kp_upd upd_same⟩
  unfold seqIndex?
  have e1 : ¬ ((k : Int) < 0) := by omega
  simp only [if_neg e1]
  rw [if_pos (by simp; omega)]
  simp
def vAbs : List V → Hp → VK → Prop := fun xs H Q => match xs with
  | [.int i] => Q (.int (if i < 0 then -i else i)) H
  | _ => False
theorem callAbs : CallR X (.builtin "abs") vAbs := call_abs.imp fun xs H Q h => by
  unfold vAbs at h; split at h
  · exact ⟨_, rfl, h⟩
  · exact h.elim
end
end L2

set_option linter.all false
set_option Elab.async false
set_option maxRecDepth 100000
set_option maxHeartbeats 4000000
namespace L2
open PySem PySem.Spec PyProof.Rows
section
variable {g : TG} {tt : TT} {te : TE} {σ0 : St} {H1 : Hp} {Q : Addr → Hp → Prop} {K : PySem.W.Frag}
end
end L2

set_option linter.all false
set_option Elab.async false
set_option maxRecDepth 100000
set_option maxHeartbeats 4000000
namespace L2
open PySem PySem.Spec PyProof.Rows
/-! ### xs.index(z) of a list of numbers -/
section
variable {X : Cx}
end
end L2

set_option linter.all false
set_option Elab.async false
namespace L2
open PySem
section
variable {X : Cx} {K : PySem.W.Frag}
end
end L2

set_option linter.all false
set_option maxRecDepth 100000
namespace L2
open PySem PySem.Spec PyProof.Rows
section
variable {X : Cx}
/-! ### range of one number as a value -/
end
end L2

set_option linter.all false
set_option Elab.async false
set_option maxRecDepth 100000
set_option maxHeartbeats 4000000
namespace L2
open PySem PySem.Spec PyProof.Rows PySem.SeqAt PySem.MeetsSeq3
open PySem.AutoSeq1 (wpAny_loadPart')
/-! ### x < y of lists and tuples whose items may be lists -/
def LessAt (A : Around) (s : Shared) (x y : Value) (r : Bool) : Prop :=
  ∀ (p : Program) (w : World) (E Q : Value → Shared → Prop), Q (.bool r) s → wpAny (model p w) A (richCompare .Lt x y) Q E s
/-- how two rows of values compare, item by item -/
inductive Lesser (A : Around) (s : Shared) : List Value → List Value → Bool → Prop where
  | both : Lesser A s [] [] false
  | short {y : Value} {ys : List Value} : Lesser A s [] (y :: ys) true
  | long {x : Value} {xs : List Value} : Lesser A s (x :: xs) [] false
  | on {x y : Value} {xs ys : List Value} {r : Bool} (h : EqAt A s x y true) (t : Lesser A s xs ys r) : Lesser A s (x :: xs) (y :: ys) r
  | off {x y : Value} {xs ys : List Value} {r : Bool} (h : EqAt A s x y false) (t : LessAt A s x y r) : Lesser A s (x :: xs) (y :: ys) r
def SObj (h : Heap) (c : String) (a : Addr) (d : Option Addr) (vs : Array Value) (n : Nat) (sl : Array (Option Value)) : Prop := h.get? a = some { cls := .type c, dict := d, data := .seq vs n, slots := sl }
theorem less_loop {a b : Addr} {vs us : Array Value} {n m : Nat} {da db : Option Addr} {sa sb : Array (Option Value)} {r : Bool} : ∀ (k i : Nat), vs.size - i = k →
    Meets (Builtin.«list.__eq__.loop» ⟨[.ref a, .ref b, rawInt i, rawInt 0], []⟩) fun A R s => SObj s.heap "list" a da vs n sa ∧ SObj s.heap "list" b db us m sb ∧
      Lesser A.in1 s (vs.toList.drop i) (us.toList.drop i) r ∧ i ≤ vs.size ∧ i ≤ us.size ∧ R (.ok (.ret (.bool r))) s
  | 0, i, hk => by
    intro prog w A R s ⟨ha, hb, hl, hi1, hi2, q⟩
    obtain ⟨hp, gl, dr, tk, os⟩ := s
    unfold SObj at ha hb
    have d1 : vs.toList.drop i = [] := List.drop_eq_nil_of_le (by simp; omega)
    rw [d1] at hl
    wp_walk using wpAny_loadPart' ha, wpAny_loadPart' hb
    have v1 : vs[((i : Nat) : Int).toNat]? = none := by simp; omega
    rw [v1]
    wp_walk using wpAny_loadPart' ha, wpAny_loadPart' hb
    show R (.ok (.ret (.bool (decide (vs.size < us.size))))) _
    have z : decide (vs.size < us.size) = r := by
      generalize hd : us.toList.drop i = us' at hl
      cases hl with
      | both =>
        have := congrArg List.length hd
        simp at this
        exact decide_eq_false (by omega)
      | short =>
        have := congrArg List.length hd
        simp at this
        exact decide_eq_true (by omega)
    rw [z]; exact q
  | k + 1, i, hk => by
    intro prog w A R s ⟨ha, hb, hl, hi1, hi2, q⟩
    obtain ⟨hp, gl, dr, tk, os⟩ := s
    unfold SObj at ha hb
    have i1 : i < vs.size := by omega
    have d1 : vs.toList.drop i = vs[i] :: vs.toList.drop (i + 1) := by rw [List.drop_eq_getElem_cons (by simpa using i1)]; simp
    rw [d1] at hl
    wp_walk using wpAny_loadPart' ha, wpAny_loadPart' hb
    have v1 : vs[((i : Nat) : Int).toNat]? = some vs[i] := by rw [Int.toNat_natCast]; exact Array.getElem?_eq_getElem i1
    rw [v1]
    by_cases i2 : i < us.size
    · have d2 : us.toList.drop i = us[i] :: us.toList.drop (i + 1) := by rw [List.drop_eq_getElem_cons (by simpa using i2)]; simp
      rw [d2] at hl
      have v2 : us[((i : Nat) : Int).toNat]? = some us[i] := by rw [Int.toNat_natCast]; exact Array.getElem?_eq_getElem i2
      rw [v2]
      cases hl with
      | on he ht =>
        refine wpAny_bind (he prog w _ _ ?_)
        wp_walk
        rw [show ((i : Int) + 1) = ((i + 1 : Nat) : Int) by omega]
        refine ⟨plainId_quiet plain_eq_loop _, codeAny_builtin entry_eq_loop ?_⟩
        rw [Around.under_plainId plain_eq_loop _]
        exact less_loop k (i + 1) (by omega) prog w A R _ ⟨ha, hb, ht, by omega, by omega, q⟩
      | off he ht =>
        refine wpAny_bind (he prog w _ _ ?_)
        wp_walk using wpAny_loadPart' ha, wpAny_loadPart' hb
        rw [v1, v2]
        refine wpAny_bind (ht prog w _ _ ?_)
        wp_walk
        exact q
    · have d2 : us.toList.drop i = [] := List.drop_eq_nil_of_le (by simp; omega)
      rw [d2] at hl
      cases hl with
      | long =>
        have v2 : us[((i : Nat) : Int).toNat]? = none := by simp; omega
        rw [v2]
        wp_walk using wpAny_loadPart' ha, wpAny_loadPart' hb
        have z : decide (vs.size < us.size) = false := decide_eq_false (by omega)
        show R (.ok (.ret (.bool (decide (vs.size < us.size))))) _
        rw [z]; exact q
theorem list_less {a b : Addr} {vs us : Array Value} {n m : Nat} {da db : Option Addr} {sa sb : Array (Option Value)} {r : Bool} :
    Meets (Builtin.«list.__lt__» ⟨[.ref a, .ref b], []⟩) fun A R s => SObj s.heap "list" a da vs n sa ∧ SObj s.heap "list" b db us m sb ∧ Lesser A.in1 s vs.toList us.toList r ∧ R (.ok (.ret (.bool r))) s := by
  intro prog w A R s ⟨ha, hb, hl, q⟩
  obtain ⟨hp, gl, dr, tk, os⟩ := s
  unfold SObj at ha hb
  have sub := AutoSeq1.sub_list_list
  wp_walk using wpAny_loadPart' ha, wpAny_loadPart' hb
  refine ⟨plainId_quiet plain_eq_loop _, codeAny_builtin entry_eq_loop ?_⟩
  rw [Around.under_plainId plain_eq_loop _]
  exact less_loop vs.size 0 rfl prog w A R _ ⟨ha, hb, by simpa using hl, by omega, by omega, q⟩
theorem tuple_less {a b : Addr} {vs us : Array Value} {n m : Nat} {da db : Option Addr} {sa sb : Array (Option Value)} {r : Bool} :
    Meets (Builtin.«tuple.__lt__» ⟨[.ref a, .ref b], []⟩) fun A R s => SObj s.heap "tuple" a da vs n sa ∧ SObj s.heap "tuple" b db us m sb ∧ Lesser A.in1 s vs.toList us.toList r ∧ R (.ok (.ret (.bool r))) s := by
  refine .of_wp fun prog w A R s h => ?_
  obtain ⟨hp, gl, dr, tk, os⟩ := s
  obtain ⟨ha, hb, hl, q⟩ := h
  unfold SObj at ha hb
  have sub := AutoSeq1.sub_tuple_tuple
  have key : ∀ {xs ys : List Value}, Lesser A.in1 ⟨hp, gl, dr, tk, os⟩ xs ys r → xs.zip ys = [] → r = decide (xs.length < ys.length) := by
    intro xs ys h z
    cases h with
    | both => rfl
    | short => rfl
    | long => rfl
    | on => cases z
    | off => cases z
  wp_walk using wpAny_loadPart' ha, wpAny_loadPart' hb, wpAny_forIn_list _ (fun rest c s' => c.1 = none ∧ s' = ⟨hp, gl, dr, tk, os⟩ ∧ ∃ xs ys : List Value, rest = xs.zip ys ∧ xs.length + us.size = ys.length + vs.size ∧ Lesser A.in1 ⟨hp, gl, dr, tk, os⟩ xs ys r) _
  case turn =>
    rintro ⟨x, y⟩ rest c s' ⟨hc, rfl, xs, ys, hz, hlen, hl⟩
    cases hl with
    | both => cases hz
    | short => cases hz
    | long => cases hz
    | on he ht =>
      rw [List.zip_cons_cons] at hz
      cases hz
      refine wpAny_bind (he prog w _ _ ?_)
      wp_walk
      exact ⟨rfl, rfl, _, _, rfl, by simp only [List.length_cons] at hlen; omega, ht⟩
    | off he ht =>
      rw [List.zip_cons_cons] at hz
      cases hz
      refine wpAny_bind (he prog w _ _ ?_)
      have ht' := ht prog w
      wp_walk using ht'
      exact ⟨_, rfl, q⟩
  case fin =>
    rintro ⟨c1, c2⟩ s' ⟨hc, rfl, xs, ys, hz, hlen, hl⟩
    simp only at hc
    subst hc
    have e := key hl hz.symm
    have e2 : decide (xs.length < ys.length) = decide (vs.size < us.size) := decide_eq_decide.mpr (by omega)
    rw [e, e2] at q
    wp_walk
    exact ⟨_, rfl, by simpa [Builtin.Tuple.tupleCompareSizes] using q⟩
  case h =>
    exact ⟨rfl, rfl, vs.toList, us.toList, rfl, by simp; omega, hl⟩
theorem less_lists {A : Around} {s : Shared} {a b : Addr} {vs us : Array Value} {r : Bool} (ha : s.heap.IsList a vs) (hb : s.heap.IsList b us) (hu : A.units < cLine) (h : Lesser A.in1 s vs.toList us.toList r) : LessAt A s (.ref a) (.ref b) r := fun p w E Q q => by
  obtain ⟨⟨c1, d1, x1, l1⟩, o1, hc1, n1, hd1⟩ := id ha
  obtain ⟨⟨c2, d2, x2, l2⟩, o2, hc2, n2, hd2⟩ := id hb
  cases hc1; cases hd1; cases hc2; cases hd2
  exact richCompare_meets_room (op := .Lt) ⟨_, o1, rfl⟩ ⟨_, o2, rfl⟩ F.slot_list_lt F.entry_list_lt (F.args_list_lt_2 _ _) list_less ⟨o1, o2, h, show Value.bool _ ≠ Value.notImplemented ∧ Q _ s from ⟨(fun x => nomatch x), q⟩⟩ hu
theorem less_tuples {A : Around} {s : Shared} {a b : Addr} {vs us : Array Value} {r : Bool} (ha : s.heap.IsTuple a vs) (hb : s.heap.IsTuple b us) (hu : A.units < cLine) (h : Lesser A.in1 s vs.toList us.toList r) : LessAt A s (.ref a) (.ref b) r := fun p w E Q q => by
  obtain ⟨⟨c1, d1, x1, l1⟩, o1, hc1, n1, hd1⟩ := id ha
  obtain ⟨⟨c2, d2, x2, l2⟩, o2, hc2, n2, hd2⟩ := id hb
  cases hc1; cases hd1; cases hc2; cases hd2
  exact richCompare_meets_room (op := .Lt) ⟨_, o1, rfl⟩ ⟨_, o2, rfl⟩ PySem.F.slot_tuple_lt PySem.F.entry_tuple_lt (PySem.F.args_tuple_lt_2 _ _) tuple_less ⟨o1, o2, h, show Value.bool _ ≠ Value.notImplemented ∧ Q _ s from ⟨(fun x => nomatch x), q⟩⟩ hu
end L2

set_option linter.all false
set_option Elab.async false
set_option maxRecDepth 100000
set_option maxHeartbeats 4000000
namespace L2
open PySem PySem.Spec PyProof.Rows PySem.SeqAt
/-! ### min of a list of things that are compared by what the heap holds -/
section
variable {p : Program} {w : World} {A : Around} {s0 : Shared}
def KeptBy (h h' : Heap) : Prop := ∀ b o, h.get? b = some o → h'.get? b = some o
/-- one thing is less than the other, in every later heap -/
def LessBy (A : Around) (s : Shared) (us : List Value) (lt : Nat → Nat → Bool) : Prop :=
  ∀ i j (x y : Value), i ≠ j → us[i]? = some x → us[j]? = some y → ∀ (h : Heap) (t : Nat), KeptBy s.heap h → LessAt A { s with heap := h, toks := t } x y (lt i j)
def firstLow (lt : Nat → Nat → Bool) : Nat → Nat
  | 0 => 0
  | k + 1 => if lt (k + 1) (firstLow lt k) then k + 1 else firstLow lt k
theorem firstLow_le (lt : Nat → Nat → Bool) : ∀ k, firstLow lt k ≤ k
  | 0 => Nat.le_refl _
  | k + 1 => by unfold firstLow; have := firstLow_le lt k; split <;> omega
def PairObj (x : Value) (c : Nat) : Obj := { cls := .type "list", dict := none, data := .seq #[x, x] c, slots := #[] }
theorem low_loop {I S l : Addr} {us : List Value} {lt : Nat → Nat → Bool} {R : Result → Shared → Prop} (hh : A.handled = none) (hl : s0.heap.IsList l us.toArray) (hI : s0.heap.get? I = none) (hS : s0.heap.get? S = none) (hSI : S ≠ I) (hlt : LessBy A.in1 s0 us lt)
    (hR : ∀ v h t, us[firstLow lt (us.length - 1)]? = some v → KeptBy s0.heap h → R (.ok (.ret v)) { s0 with heap := h, toks := t }) :
    ∀ (k j : Nat) (h : Heap) (t : Nat) (x : Value) (c : Nat), us.length - (j + 1) = k → j + 1 ≤ us.length → KeptBy s0.heap h → h.IsListIter I l (j + 1) → h.get? S = some (PairObj x c) → us[firstLow lt j]? = some x →
      codeAny (model p w) A (.builtin "min.loop" ⟨[.ref I, .none, .ref S], []⟩) R { s0 with heap := h, toks := t } := by
  have nm : (toString "min" ++ toString ".loop" : String) = "min.loop" := by decide
  have nlI : l ≠ I := fun e => by obtain ⟨o, q, _⟩ := hl; rw [e, hI] at q; cases q
  have W := Walks.list (prog := p) (w := w) (A := A.in1) hh I l nlI us.toArray
  have z : us.toArray.size = us.length := List.size_toArray ..
  have old : ∀ {h h' : Heap}, KeptBy s0.heap h → (∀ b o, b ∉ [I] → h.get? b = some o → h'.get? b = some o) → KeptBy s0.heap h' := fun k1 k2 b o e => k2 b o (fun hm => by
    have : b = I := by simpa using hm
    rw [this, hI] at e; cases e) (k1 b o e)
  have oldS : ∀ {h : Heap} {f : Obj → Obj}, KeptBy s0.heap h → KeptBy s0.heap (h.update S f) := fun k1 b o e => (Heap.get?_update_other _ _ (fun q => by rw [← q, hS] at e; cases e)).trans (k1 b o e)
  have isl : ∀ {h : Heap}, KeptBy s0.heap h → h.IsList l us.toArray := fun k1 => hl.at fun o e => k1 l o e
  intro k
  induction k with
  | zero =>
    intro j h t x c hk hj kb it eS ex
    have jn : j + 1 = us.length := by omega
    refine codeAny_builtin PySem.F.entry_min_loop ?_
    rw [Around.under_plainId PySem.F.plain_min_loop _]
    refine wpAny_bind (wpAny_seqItems eS rfl ?_)
    refine wpAny_bind (wpAny_tryCatch (W.done _ _ _ ⟨by rw [z, ← jn]; exact it, isl kb⟩ fun h' tk hk' => ?_))
    have eS' := hk' S _ (by simpa using hSI) eS
    refine wpAny_bind ?_
    refine wpAny_updateSeq eS' rfl (wpAny_bind (wpAny_letGo (wpAny_pure ?_)))
    exact hR x _ tk (by rw [← jn]; exact ex) (oldS (old kb hk'))
  | succ k ih =>
    intro j h t x c hk hj kb it eS ex
    have jn : j + 1 < us.length := by omega
    refine codeAny_builtin PySem.F.entry_min_loop ?_
    rw [Around.under_plainId PySem.F.plain_min_loop _]
    refine wpAny_bind (wpAny_seqItems eS rfl ?_)
    refine wpAny_bind (wpAny_tryCatch (W.item (j + 1) _ _ _ (by rw [z]; exact jn) ⟨it, isl kb⟩ fun v h' tk ev st hk' => ?_))
    have eS' := hk' S _ (by simpa using hSI) eS
    have kb' := old kb hk'
    have ev' : us[j + 1]? = some v := by simpa using ev
    have fl := firstLow_le lt j
    show wpAny (model p w) A.in1 (tryCatch (holding [v, v] (richCompare .Lt v x >>= _)) _ >>= _) _ _ _
    refine wpAny_bind (wpAny_tryCatch (wpAny_holding (wpAny_bind (hlt (j + 1) (firstLow lt j) v x (by omega) ev' ex h' tk kb' p w _ _ ?_))))
    refine wpAny_bind (wpAny_holding (wpAny_truthy_bool ?_))
    refine wpAny_bind (wpAny_letGo (wpAny_pure ?_))
    cases hb : lt (j + 1) (firstLow lt j) with
    | true =>
      simp only [if_true]
      refine wpAny_bind ?_
      refine wpAny_updateSeq eS' rfl (wpAny_bind (wpAny_letGo ?_))
      rw [nm]
      refine wpAny_pure ⟨plainId_quiet PySem.F.plain_min_loop _, ih (j + 1) _ tk v _ (by omega) (by omega) (oldS kb') (st.1.at fun o e => (Heap.get?_update_other _ _ hSI).trans e) (Heap.get?_update_self _ eS' rfl) (by simp only [firstLow, hb, if_true]; exact ev')⟩
    | false =>
      simp only [Bool.false_eq_true, if_false]
      refine wpAny_bind (wpAny_letGo ?_)
      rw [nm]
      exact wpAny_pure ⟨plainId_quiet PySem.F.plain_min_loop _, ih (j + 1) _ tk x c (by omega) (by omega) kb' st.1 eS' (by simp only [firstLow, hb, Bool.false_eq_true, if_false]; exact ex)⟩
theorem low_call {l : Addr} {us : List Value} {lt : Nat → Nat → Bool} {Q E : Value → Shared → Prop} (hh : A.handled = none) (hl : s0.heap.IsList l us.toArray) (hne : 0 < us.length) (hlt : LessBy A.in1 s0 us lt)
    (hQ : ∀ v h t, us[firstLow lt (us.length - 1)]? = some v → KeptBy s0.heap h → Q v { s0 with heap := h, toks := t }) : wpAny (model p w) A (call (.builtin "min") [.ref l]) Q E s0 := by
  have nm : (toString "min" ++ toString ".loop" : String) = "min.loop" := by decide
  refine call_function_tree PySem.F.kind_min PySem.F.plain_min PySem.F.entry_min (PySem.F.args_min1 _) ?_
  refine wpAny_bind (wpAny_of_eq (show Builtin.Builtins.bindParams "min" ["key", "default"] 0 ⟨[], []⟩ = pure [none, none] from rfl) ?_)
  refine wpAny_bind (wpAny_pure ?_)
  refine wpAny_bind (wpAny_pyIter_list hl ?_)
  refine wpAny_bind (wpAny_newObj_type ?_)
  rw [nm]
  refine wpAny_pure ⟨plainId_quiet PySem.F.plain_min_loop _, ?_⟩
  have hlt0 : l < s0.heap.objs.size := by obtain ⟨_, e, _⟩ := hl; exact Heap.lt_size e
  generalize hob : ({ cls := .type "list_iterator", data := .fields #[.ref l, .int 0 0] } : Obj) = ob
  have fI : (s0.heap.push ob).get? s0.heap.objs.size = some ob := by subst hob; exact Heap.get?_push_size _ rfl
  have nI : s0.heap.get? s0.heap.objs.size = none := by
    cases e : s0.heap.get? s0.heap.objs.size with
    | none => rfl
    | some o => exact absurd (Heap.lt_size e) (Nat.lt_irrefl _)
  generalize hob2 : ({ cls := .type "list", data := .seq #[] } : Obj) = ob2
  have zI : (s0.heap.push ob).objs.size = s0.heap.objs.size + 1 := Heap.size_push ..
  have nSI : (s0.heap.push ob).objs.size ≠ s0.heap.objs.size := by rw [zI]; omega
  have nS : ¬ (s0.heap.push ob).objs.size < s0.heap.objs.size := by rw [zI]; omega
  generalize hS : (s0.heap.push ob).objs.size = S at *
  have e2 : ((s0.heap.push ob).push ob2).get? S = some ob2 := by subst hS; subst hob2; exact Heap.get?_push_size _ rfl
  have fS : s0.heap.get? S = none := by
    cases e : s0.heap.get? S with
    | none => rfl
    | some o => exact absurd (Heap.lt_size e) nS
  have kb2 : KeptBy s0.heap ((s0.heap.push ob).push ob2) := fun b o e => Heap.get?_push_of_some _ (Heap.get?_push_of_some _ e)
  have nlI : l ≠ s0.heap.objs.size := Nat.ne_of_lt hlt0
  have W := Walks.list (prog := p) (w := w) (A := A.in1) hh s0.heap.objs.size l nlI us.toArray
  have z : us.toArray.size = us.length := List.size_toArray ..
  have it0 : ((s0.heap.push ob).push ob2).IsListIter s0.heap.objs.size l 0 := ⟨ob, Heap.get?_push_of_some _ fI, by rw [← hob], by rw [← hob]; rfl⟩
  refine codeAny_builtin PySem.F.entry_min_loop ?_
  rw [Around.under_plainId PySem.F.plain_min_loop _]
  subst hob2
  refine wpAny_bind (wpAny_seqItems e2 rfl ?_)
  refine wpAny_bind (wpAny_tryCatch (W.item 0 _ _ _ (by rw [z]; exact hne) ⟨it0, hl.at fun o e => kb2 l o e⟩ fun v h' tk ev st hk' => ?_))
  have eS' := hk' S _ (by simpa using nSI) e2
  have kb' : KeptBy s0.heap h' := fun b o e => hk' b o (fun hm => by
    have : b = s0.heap.objs.size := by simpa using hm
    rw [this, nI] at e; cases e) (kb2 b o e)
  show wpAny (model p w) A.in1 (updateSeq S (fun _ => #[v, v]) >>= _) _ _ _
  refine wpAny_bind ?_
  refine wpAny_updateSeq eS' rfl ?_
  rw [nm]
  have oldS : ∀ {f : Obj → Obj}, KeptBy s0.heap (h'.update S f) := fun b o e => (Heap.get?_update_other _ _ (fun q => by rw [← q, fS] at e; cases e)).trans (kb' b o e)
  refine wpAny_pure ⟨plainId_quiet PySem.F.plain_min_loop _, ?_⟩
  exact low_loop (s0 := s0) hh hl nI fS nSI hlt hQ _ 0 _ tk v _ rfl hne oldS (st.1.at fun o e => (Heap.get?_update_other _ _ nSI).trans e) (Heap.get?_update_self _ eS' rfl) (by simpa [firstLow] using ev)
end
end L2

set_option linter.all false
set_option Elab.async false
set_option maxRecDepth 100000
set_option maxHeartbeats 4000000
namespace L2
open PySem PySem.Spec PyProof.Rows PySem.SeqAt
/-! ### the order of tuples of numbers and lists of numbers, and min by it -/
/-- an order in which of two things one is less -/
structure Ord {α : Type} (lt : α → α → Bool) : Prop where
  irr : ∀ x, lt x x = false
  tr : ∀ x y z, lt x y = true → lt y z = true → lt x z = true
  tot : ∀ x y, x ≠ y → lt x y = true ∨ lt y x = true
def lexB {α : Type} [DecidableEq α] (lt : α → α → Bool) : List α → List α → Bool
  | [], [] => false
  | [], _ :: _ => true
  | _ :: _, [] => false
  | x :: xs, y :: ys => if x = y then lexB lt xs ys else lt x y
section
variable {α : Type} [DecidableEq α] {lt : α → α → Bool}
theorem lexB_irr : ∀ xs : List α, lexB lt xs xs = false
  | [] => rfl
  | x :: xs => by simp only [lexB, if_true]; exact lexB_irr xs
theorem lexB_tr (o : Ord lt) : ∀ xs ys zs : List α, lexB lt xs ys = true → lexB lt ys zs = true → lexB lt xs zs = true
  | [], [], _, h, _ => nomatch h
  | [], _ :: _, [], _, h => nomatch h
  | [], _ :: _, _ :: _, _, _ => rfl
  | _ :: _, [], _, h, _ => nomatch h
  | _ :: _, _ :: _, [], _, h => nomatch h
  | x :: xs, y :: ys, z :: zs, h1, h2 => by
    simp only [lexB] at h1 h2 ⊢
    by_cases e1 : x = y
    · subst e1
      rw [if_pos rfl] at h1
      by_cases e2 : x = z
      · subst e2
        rw [if_pos rfl] at h2 ⊢
        exact lexB_tr o xs ys zs h1 h2
      · rw [if_neg e2] at h2 ⊢; exact h2
    · rw [if_neg e1] at h1
      by_cases e2 : y = z
      · subst e2
        rw [if_neg e1]; exact h1
      · rw [if_neg e2] at h2
        have h3 := o.tr x y z h1 h2
        by_cases e3 : x = z
        · subst e3
          rw [o.irr] at h3; cases h3
        · rw [if_neg e3]; exact h3
theorem lexB_tot (o : Ord lt) : ∀ xs ys : List α, xs ≠ ys → lexB lt xs ys = true ∨ lexB lt ys xs = true
  | [], [], h => absurd rfl h
  | [], _ :: _, _ => .inl rfl
  | _ :: _, [], _ => .inr rfl
  | x :: xs, y :: ys, h => by
    simp only [lexB]
    by_cases e : x = y
    · subst e
      rw [if_pos rfl, if_pos rfl]
      exact lexB_tot o xs ys fun q => h (by rw [q])
    · rw [if_neg e, if_neg fun q => e q.symm]
      exact o.tot x y e
theorem lexB_ord (o : Ord lt) : Ord (lexB lt) := ⟨lexB_irr, lexB_tr o, lexB_tot o⟩
end
theorem int_ord : Ord (fun a b : Int => decide (a < b)) := ⟨fun x => by simp, fun x y z h1 h2 => by simp at *; omega, fun x y h => by simp; omega⟩
/-- numbers place by place -/
def ltI : List Int → List Int → Bool := lexB fun a b : Int => decide (a < b)
theorem ltI_ord : Ord ltI := lexB_ord int_ord
/-- what stands in a tuple: a number or numbers -/
inductive CV where
  | n (i : Int)
  | s (l : List Int)
deriving DecidableEq
def CV.lt : CV → CV → Bool
  | .n a, .n b => decide (a < b)
  | .s a, .s b => ltI a b
  | .n _, .s _ => true
  | .s _, .n _ => false
theorem cv_ord : Ord CV.lt := by
  refine ⟨fun x => ?_, fun x y z h1 h2 => ?_, fun x y h => ?_⟩
  · cases x with
    | n i => exact int_ord.irr i
    | s l => exact ltI_ord.irr l
  · cases x <;> cases y <;> cases z <;> first
      | exact int_ord.tr _ _ _ h1 h2
      | exact ltI_ord.tr _ _ _ h1 h2
      | rfl
      | (have q := h1; simp [CV.lt] at q; done)
      | (have q := h2; simp [CV.lt] at q; done)
  · cases x <;> cases y <;> first
      | exact int_ord.tot _ _ fun q => h (by rw [q])
      | exact ltI_ord.tot _ _ fun q => h (by rw [q])
      | exact .inl rfl
      | exact .inr rfl
def ltT : List CV → List CV → Bool := lexB CV.lt
theorem ltT_ord : Ord ltT := lexB_ord cv_ord
theorem firstLow_min {cs : Nat → List CV} : ∀ (n i : Nat), i ≤ n → ltT (cs i) (cs (firstLow (fun i j => ltT (cs i) (cs j)) n)) = false
  | 0, i, h => by
    have : i = 0 := by omega
    subst this
    exact ltT_ord.irr _
  | n + 1, i, h => by
    have ih := firstLow_min (cs := cs) n
    simp only [firstLow]
    by_cases hb : ltT (cs (n + 1)) (cs (firstLow (fun i j => ltT (cs i) (cs j)) n)) = true
    case neg =>
      rw [if_neg hb]
      have hb := (Bool.not_eq_true _).mp hb
      by_cases e : i = n + 1
      · subst e; exact hb
      · exact ih i (by omega)
    case pos =>
      rw [if_pos hb]
      by_cases e : i = n + 1
      · subst e; exact ltT_ord.irr _
      · have h1 := ih i (by omega)
        cases h2 : ltT (cs i) (cs (n + 1)) with
        | false => rfl
        | true => rw [ltT_ord.tr _ _ _ h2 hb] at h1; cases h1
/-- a value reads as such a thing -/
def RC (H : Hp) (x : V) (c : CV) : Prop := match c with
  | .n i => x = .int i
  | .s l => ∃ a, x = .ref a ∧ H a = some (.lst (l.map V.int))
def Kin : CV → CV → Prop
  | .n _, .n _ => True
  | .s _, .s _ => True
  | _, _ => False
/-- two tuples whose kinds agree as far as they are looked at -/
def Kins : List CV → List CV → Prop
  | [], _ => True
  | _ :: _, [] => True
  | x :: xs, y :: ys => Kin x y ∧ (x = y → Kins xs ys)
theorem map_int_inj {l m : List Int} (h : l.map V.int = m.map V.int) : l = m := by
  have : Function.Injective V.int := fun a b e => by injection e
  exact List.map_inj_right (fun a b e => this e) |>.mp h
section
variable {X : Cx} {pins : List (Addr × Obj)} {σ : St} {H : Hp} {s : Shared}
theorem all_eq {l m : List Int} (h : l.length = m.length) : (List.range l.length).all (fun j => decide (l.getD j 0 = m.getD j 0)) = decide (l = m) := by
  by_cases e : l = m
  · subst e; simp
  · rw [decide_eq_false e, List.all_eq_false]
    obtain ⟨i, hi⟩ : ∃ i, l[i]? ≠ m[i]? := Classical.byContradiction fun q => e (List.ext_getElem? fun i => Classical.byContradiction fun z => q ⟨i, z⟩)
    have hl : i < l.length := Classical.byContradiction fun q => hi (by rw [List.getElem?_eq_none (by omega), List.getElem?_eq_none (by omega)])
    refine ⟨i, List.mem_range.mpr hl, ?_⟩
    simp only [decide_eq_true_eq]
    intro q
    have hm : i < m.length := by omega
    rw [List.getD_eq_getElem?_getD, List.getD_eq_getElem?_getD, List.getElem?_eq_getElem hl, List.getElem?_eq_getElem hm] at q
    exact hi (by rw [List.getElem?_eq_getElem hl, List.getElem?_eq_getElem hm]; simpa using q)
theorem eq_cv (I : Inv X pins σ H s) {A : Around} (hA : A.units + 1 < cLine) {x y : V} {u v : Value} {c d : CV} (h1 : RC H x c) (h2 : RC H y d) (hk : Kin c d) (r1 : RelV x u) (r2 : RelV y v) : EqAt A s u v (decide (c = d)) := by
  cases c with
  | n i =>
    cases d with
    | s m => exact hk.elim
    | n j =>
      cases (show x = .int i from h1)
      cases (show y = .int j from h2)
      obtain ⟨t, rfl⟩ := r1
      obtain ⟨t', rfl⟩ := r2
      have e : decide (CV.n i = CV.n j) = (i == j) := by
        rw [Bool.beq_eq_decide_eq]; exact decide_eq_decide.mpr ⟨fun q => by injection q, fun q => by rw [q]⟩
      rw [e]
      exact EqAt.int_int i t j t'
  | s l =>
    cases d with
    | n j => exact hk.elim
    | s m =>
      obtain ⟨a, rfl, ha⟩ := h1
      obtain ⟨b, rfl, hb⟩ := h2
      cases r1
      cases r2
      have e : decide (CV.s l = CV.s m) = decide (l = m) := decide_eq_decide.mpr ⟨fun q => by injection q, fun q => by rw [q]⟩
      rw [e]
      by_cases hab : a = b
      · subst hab
        rw [ha] at hb
        have : l = m := map_int_inj (by injection hb with q; injection q)
        rw [decide_eq_true this]
        exact EqAt.same _
      · obtain ⟨us, q1, p1, _⟩ := I.list (SqL.of ha)
        obtain ⟨vs, q2, p2, _⟩ := I.list (SqL.of hb)
        have i1 := intsAre_of q1
        have i2 := intsAre_of q2
        have l1 := q1.length
        have l2 := q2.length
        rw [List.length_map] at l1 l2
        by_cases hl : l.length = m.length
        · refine EqAt.of_refs hab ?_
          have := RcAt.lists (A := A) (e := fun j => decide (l.getD j 0 = m.getD j 0)) p1.isList p2.isList (by simp only [List.size_toArray]; omega) (by omega) fun j a1 a2 => by
            obtain ⟨t1, e1⟩ := ints_at i1 j a1
            obtain ⟨t2, e2⟩ := ints_at i2 j a2
            rw [e1, e2, ← Bool.beq_eq_decide_eq]
            exact EqAt.int_int (A := A.in1) (s := s) (l.getD j 0) t1 (m.getD j 0) t2
          rwa [show us.toArray.size = l.length by simp only [List.size_toArray]; omega, all_eq hl] at this
        · rw [decide_eq_false fun q => hl (by rw [q])]
          exact EqAt.of_refs hab (RcAt.lists_lengths p1.isList p2.isList (by simp only [List.size_toArray, bne_iff_ne]; omega) (by omega))
theorem less_ints {A : Around} : ∀ {us vs : List Value} {l m : List Int}, IntsAre us l → IntsAre vs m → Lesser A s us vs (ltI l m)
  | _, _, _, _, .nil, .nil => .both
  | _, _, _, _, .nil, .cons _ _ _ => .short
  | _, _, _, _, .cons _ _ _, .nil => .long
  | _, _, _, _, .cons a t h1, .cons b t' h2 => by
    have e := EqAt.int_int (A := A) (s := s) a t b t'
    unfold ltI
    simp only [lexB]
    by_cases z : a = b
    · rw [if_pos z]
      rw [beq_iff_eq.mpr z] at e
      exact .on e (less_ints h1 h2)
    · rw [if_neg z]
      rw [beq_eq_false_iff_ne.mpr z] at e
      exact .off e fun p w E Q q => lt_int q
theorem less_cv (I : Inv X pins σ H s) {A : Around} (hA : A.units + 1 < cLine) {x y : V} {u v : Value} {c d : CV} (h1 : RC H x c) (h2 : RC H y d) (hk : Kin c d) (r1 : RelV x u) (r2 : RelV y v) : LessAt A s u v (CV.lt c d) := by
  cases c with
  | n i =>
    cases d with
    | s m => exact hk.elim
    | n j =>
      cases (show x = .int i from h1)
      cases (show y = .int j from h2)
      obtain ⟨t, rfl⟩ := r1
      obtain ⟨t', rfl⟩ := r2
      exact fun p w E Q q => lt_int q
  | s l =>
    cases d with
    | n j => exact hk.elim
    | s m =>
      obtain ⟨a, rfl, ha⟩ := h1
      obtain ⟨b, rfl, hb⟩ := h2
      cases r1
      cases r2
      obtain ⟨us, q1, p1, _⟩ := I.list (SqL.of ha)
      obtain ⟨vs, q2, p2, _⟩ := I.list (SqL.of hb)
      exact less_lists p1.isList p2.isList (by omega) (less_ints (by simpa using intsAre_of q1) (by simpa using intsAre_of q2))
theorem less_cvs (I : Inv X pins σ H s) {A : Around} (hA : A.units + 1 < cLine) : ∀ {xs ys : List V} {us vs : List Value} {cs ds : List CV}, Paired (RC H) xs cs → Paired (RC H) ys ds → Kins cs ds → Vals xs us → Vals ys vs → Lesser A s us vs (ltT cs ds)
  | _, _, _, _, _, _, .nil, .nil, _, .nil, .nil => .both
  | _, _, _, _, _, _, .nil, .cons _ _, _, .nil, .cons _ _ => .short
  | _, _, _, _, _, _, .cons _ _, .nil, _, .cons _ _, .nil => .long
  | _, _, _, _, _, _, .cons (b := c) h1 t1, .cons (b := d) h2 t2, hk, .cons r1 q1, .cons r2 q2 => by
    have e := eq_cv I hA h1 h2 hk.1 r1 r2
    unfold ltT
    simp only [lexB]
    by_cases z : c = d
    · rw [if_pos z]
      rw [decide_eq_true z] at e
      exact .on e (less_cvs I hA t1 t2 (hk.2 z) q1 q2)
    · rw [if_neg z]
      rw [decide_eq_false z] at e
      exact .off e (less_cv I hA h1 h2 hk.1 r1 r2)
end
end L2

set_option linter.all false
set_option Elab.async false
set_option maxRecDepth 100000
set_option maxHeartbeats 4000000
namespace L2
open PySem PySem.Spec PyProof.Rows PySem.SeqAt
section
variable {X : Cx}
@[irreducible] def hMinT (a : Addr) (H : Hp) (Q : VK) : Prop := ∃ (as : List Addr) (cs : Nat → List CV), H a = some (.lst (as.map V.ref)) ∧ as ≠ [] ∧ (∀ (i : Nat) b, as[i]? = some b → ∃ xs, H b = some (.tup xs) ∧ Paired (RC H) xs (cs i)) ∧ (∀ i j, i ≠ j → i < as.length → j < as.length → Kins (cs i) (cs j)) ∧
  ∀ (k : Nat) b, as[k]? = some b → (∀ i, i < as.length → ltT (cs i) (cs k) = false) → Q (.ref b) H
def vMinT : List V → Hp → VK → Prop := fun xs H Q => match xs with
  | [.ref a] => hMinT a H Q
  | _ => False
theorem kMinT {n : Nat} (hr : Room n X.A) (hc : X.calm = true) : CallR X (.builtin "min") vMinT := by
  intro pins s σ H xs us Q I r h
  unfold vMinT at h
  split at h
  · rename_i a
    unfold hMinT at h
    obtain ⟨as, cs, ha, hne, hit, hk, q⟩ := h
    obtain ⟨u, rfl, rx⟩ := vals1 r
    cases rx
    obtain ⟨its, r', pl, _⟩ := I.list (SqL.of ha)
    have hl := r'.length
    rw [List.length_map] at hl
    have hpos : 0 < as.length := List.length_pos_iff.mpr hne
    have its_at : ∀ (i : Nat) (v : Value), its[i]? = some v → ∃ b, as[i]? = some b ∧ v = .ref b := fun i v hv => by
      have hi : i < as.length := by have := (List.getElem?_eq_some_iff.mp hv).1; omega
      have e : (as.map V.ref)[i]? = some (.ref as[i]) := by rw [List.getElem?_map, List.getElem?_eq_getElem hi]; rfl
      exact ⟨as[i], List.getElem?_eq_getElem hi, paired_at r' i e hv⟩
    have hu := hr.units
    refine low_call (lt := fun i j => ltT (cs i) (cs j)) (I.ok.hd hc) pl.isList (by omega) (fun i j x y nij hx hy h' t kb => ?_) fun v h' t hv kb => ?_
    · obtain ⟨b1, g1, rfl⟩ := its_at i x hx
      obtain ⟨b2, g2, rfl⟩ := its_at j y hy
      have I' : Inv X pins σ H { s with heap := h', toks := t } := I.kept (t' := t) kb
      obtain ⟨xs1, f1, p1⟩ := hit i b1 g1
      obtain ⟨xs2, f2, p2⟩ := hit j b2 g2
      obtain ⟨us1, v1, t1, _⟩ := I'.tuple (SqT.of f1)
      obtain ⟨us2, v2, t2, _⟩ := I'.tuple (SqT.of f2)
      refine less_tuples t1 t2 (by show X.A.units + 1 < cLine; omega) ?_
      exact less_cvs I' (by show X.A.units + 1 + 1 + 1 < cLine; omega) p1 p2 (hk i j nij (List.getElem?_eq_some_iff.mp g1).1 (List.getElem?_eq_some_iff.mp g2).1) (by simpa using v1) (by simpa using v2)
    · obtain ⟨b, hb, rfl⟩ := its_at _ v hv
      refine ⟨.ref b, H, I.kept kb, rfl, q _ b hb fun i hi => ?_⟩
      exact firstLow_min (cs := cs) (its.length - 1) i (by omega)
  · exact h.elim
theorem i_minT {a : Addr} {H : Hp} {Q : VK} {as : List Addr} (cs : Nat → List CV) (ha : H a = some (.lst (as.map V.ref))) (hne : as ≠ []) (hit : ∀ (i : Nat) b, as[i]? = some b → ∃ xs, H b = some (.tup xs) ∧ Paired (RC H) xs (cs i)) (hk : ∀ i j, i ≠ j → i < as.length → j < as.length → Kins (cs i) (cs j))
    (q : ∀ (k : Nat) b, as[k]? = some b → (∀ i, i < as.length → ltT (cs i) (cs k) = false) → Q (.ref b) H) : hMinT a H Q := by unfold hMinT; exact ⟨as, cs, ha, hne, hit, hk, q⟩
end
end L2

set_option linter.all false
set_option Elab.async false
set_option maxRecDepth 100000
set_option maxHeartbeats 4000000
namespace L2
open PySem PySem.Spec PyProof.Rows PySem.SeqAt
/-! ### one list of numbers less than another -/
section
variable {X : Cx}
@[irreducible] def hLtR (K : PySem.W.Frag) (a b : Addr) (H : Hp) (Q : Bool → Hp → Prop) : Prop := ∃ ns ms : List Int, SqL K H a (ns.map V.int) ∧ SqL K H b (ms.map V.int) ∧ Q (ltI ns ms) H
def vLtL (K : PySem.W.Frag) : R2 := fun x y H Q => match x, y with
  | .ref a, .ref b => hLtR K a b H fun r H' => Q (.bl r) H'
  | _, _ => False
theorem kLtL {K : PySem.W.Frag} {k : Nat} (hK : X.K = K) (hr : Room k X.A) : OpR X (compareOp .Lt) (vLtL K) := by
  subst hK
  intro pins s σ H x y v u Q I rx ry h
  unfold vLtL at h
  split at h
  · unfold hLtR at h
    obtain ⟨ns, ms, h1, h2, q⟩ := h
    cases rx; cases ry
    obtain ⟨us, q1, p1, _⟩ := I.list h1
    obtain ⟨vs, q2, p2, _⟩ := I.list h2
    have hu := hr.units
    exact less_lists p1.isList p2.isList (by omega) (less_ints (by simpa using intsAre_of q1) (by simpa using intsAre_of q2)) _ _ _ _ ⟨.bl _, H, I, rfl, q⟩
  · exact h.elim
theorem i_ltI {K : PySem.W.Frag} {a b : Addr} {H : Hp} {Q : Bool → Hp → Prop} {ns ms : List Int} (h1 : H a = some (.lst (ns.map V.int))) (h2 : H b = some (.lst (ms.map V.int))) (q : Q (ltI ns ms) H) : hLtR K a b H Q := by unfold hLtR; exact ⟨ns, ms, SqL.of h1, SqL.of h2, q⟩
end
end L2

set_option linter.all false
set_option Elab.async false
set_option maxRecDepth 100000
set_option maxHeartbeats 4000000
namespace SW
open PySem
/-! ### the table of a set: places rise, nothing was taken out -/
def Rise (xs : Array Nat) : Prop := xs.toList.Pairwise (· < ·)
theorem rise_at {xs : Array Nat} (h : Rise xs) {i j : Nat} (hij : i < j) (hj : j < xs.size) : xs[i]'(by omega) < xs[j] := by
  have := (List.pairwise_iff_getElem.mp h) i j (by simpa using (by omega : i < xs.size)) (by simpa using hj) hij
  simpa using this
theorem bel_go {xs : Array Nat} {j : Nat} (R : Rise xs) : ∀ (fuel lo hi : Nat), hi - lo ≤ fuel → lo ≤ hi → hi ≤ xs.size → (∀ i (h : i < xs.size), i < lo → xs[i] < j) → (∀ i (h : i < xs.size), hi ≤ i → j ≤ xs[i]) →
    SetTable.below.go xs j fuel lo hi ≤ xs.size ∧ (∀ i (h : i < xs.size), i < SetTable.below.go xs j fuel lo hi → xs[i] < j) ∧ (∀ i (h : i < xs.size), SetTable.below.go xs j fuel lo hi ≤ i → j ≤ xs[i]) := by
  intro fuel
  induction fuel with
  | zero =>
    intro lo hi h1 h2 h3 h4 h5
    have : lo = hi := by omega
    subst this
    unfold SetTable.below.go
    exact ⟨h3, h4, h5⟩
  | succ n ih =>
    intro lo hi h1 h2 h3 h4 h5
    unfold SetTable.below.go
    split
    · rename_i hlt
      have hm : (lo + hi) / 2 < xs.size := by omega
      have e : xs.getD ((lo + hi) / 2) j = xs[(lo + hi) / 2] := by simp [Array.getD, hm]
      dsimp only
      rw [e]
      split
      · rename_i hj
        refine ih _ _ (by omega) (by omega) h3 (fun i hi' hl => ?_) h5
        rcases Nat.lt_or_ge i ((lo + hi) / 2) with c | c
        · exact Nat.lt_trans (rise_at R c hm) hj
        · have : i = (lo + hi) / 2 := by omega
          subst this; exact hj
      · rename_i hj
        refine ih _ _ (by omega) (by omega) (by omega) h4 fun i hi' hl => ?_
        rcases Nat.lt_or_ge ((lo + hi) / 2) i with c | c
        · exact Nat.le_of_lt (Nat.lt_of_le_of_lt (Nat.le_of_not_lt hj) (rise_at R c hi'))
        · have : i = (lo + hi) / 2 := by omega
          subst this; exact Nat.le_of_not_lt hj
    · have : lo = hi := by omega
      subst this
      exact ⟨h3, h4, h5⟩
theorem bel {xs : Array Nat} (j : Nat) (R : Rise xs) : SetTable.below xs j ≤ xs.size ∧ (∀ i (h : i < xs.size), i < SetTable.below xs j → xs[i] < j) ∧ (∀ i (h : i < xs.size), SetTable.below xs j ≤ i → j ≤ xs[i]) :=
  bel_go R _ _ _ (by omega) (Nat.zero_le _) (Nat.le_refl _) (fun i h hl => absurd hl (Nat.not_lt_zero _)) fun i h hl => absurd h (by omega)
theorem bel_mem {xs : Array Nat} {j : Nat} (R : Rise xs) (h : j ∈ xs.toList) : xs[SetTable.below xs j]? = some j := by
  obtain ⟨i, hi, e⟩ := List.mem_iff_getElem.mp h
  obtain ⟨b1, b2, b3⟩ := bel j R
  have hi' : i < xs.size := by simpa using hi
  have e' : xs[i] = j := by simpa using e
  have c1 : SetTable.below xs j ≤ i := by
    rcases Nat.lt_or_ge i (SetTable.below xs j) with c | c
    · exact absurd (b2 i hi' c) (by omega)
    · exact c
  have c2 : SetTable.below xs j = i := by
    rcases Nat.lt_or_ge (SetTable.below xs j) i with c | c
    · have := rise_at R c hi'
      have := b3 _ (by omega : SetTable.below xs j < xs.size) (Nat.le_refl _)
      omega
    · omega
  rw [c2, Array.getElem?_eq_getElem hi', e']
theorem ins_list {α : Type} (xs : Array α) (p : Nat) (x : α) : (SetTable.insertAt xs p x).toList = xs.toList.take p ++ x :: xs.toList.drop p := by
  unfold SetTable.insertAt
  simp [List.take_of_length_le]
theorem rise_ins {xs : Array Nat} {j : Nat} (R : Rise xs) (h : j ∉ xs.toList) : Rise (SetTable.insertAt xs (SetTable.below xs j) j) := by
  obtain ⟨b1, b2, b3⟩ := bel j R
  unfold Rise
  rw [ins_list]
  have hA : ∀ a ∈ xs.toList.take (SetTable.below xs j), a < j := fun a ha => by
    obtain ⟨i, hi, e⟩ := List.mem_iff_getElem.mp ha
    rw [List.length_take] at hi
    have := b2 i (by simpa using (by omega : i < xs.toList.length)) (by omega)
    rw [List.getElem_take] at e
    rw [← e]; simpa using this
  have hB : ∀ a ∈ xs.toList.drop (SetTable.below xs j), j < a := fun a ha => by
    obtain ⟨i, hi, e⟩ := List.mem_iff_getElem.mp ha
    rw [List.length_drop] at hi
    have := b3 (SetTable.below xs j + i) (by simpa using (by omega : SetTable.below xs j + i < xs.toList.length)) (by omega)
    rw [List.getElem_drop] at e
    have ne : a ≠ j := fun q => h (q ▸ List.mem_of_mem_drop ha)
    have e2 : xs[SetTable.below xs j + i]'(by simpa using (by omega : SetTable.below xs j + i < xs.toList.length)) = a := by simpa using e
    omega
  refine List.pairwise_append.mpr ⟨List.Pairwise.sublist (List.take_sublist _ _) R, List.pairwise_cons.mpr ⟨hB, List.Pairwise.sublist (List.drop_sublist _ _) R⟩, fun a ha b hb => ?_⟩
  rcases List.mem_cons.mp hb with rfl | hb
  · exact hA a ha
  · exact Nat.lt_trans (hA a ha) (hB b hb)
/-- a table that only grew -/
structure Ok (t : SetTable) : Prop where
  r : Rise t.place
  d : t.dummies = #[]
theorem no_dummy {t : SetTable} (h : Ok t) (j : Nat) : t.slot j ≠ .dummy := by
  unfold SetTable.slot
  dsimp only
  split
  · exact fun h => nomatch h
  · have : SetTable.has t.dummies j = false := by rw [h.d]; rfl
    rw [this]
    exact fun h => nomatch h
theorem slot_free {t : SetTable} (h : Ok t) {j : Nat} (e : t.slot j = .empty) : j ∉ t.place.toList := by
  intro hm
  unfold SetTable.slot at e
  dsimp only at e
  rw [bel_mem h.r hm] at e
  simp at e
theorem adv_dummy (t : SetTable) (p : SetTable.Probe) : (t.advance p).dummy = p.dummy := by
  unfold SetTable.advance
  split
  · rfl
  · rfl
theorem probe_free {t : SetTable} (h : Ok t) {f : Nat → Int} {x : Int} {j : Nat} {d : Option Nat} : ∀ (fuel : Nat) (p : SetTable.Probe), p.dummy = none → SetTable.probe.go t f x fuel p = some (.empty j d) → t.slot j = .empty ∧ d = none := by
  intro fuel
  induction fuel with
  | zero => intro p _ e; unfold SetTable.probe.go at e; cases e
  | succ n ih =>
    intro p hp e
    unfold SetTable.probe.go at e
    split at e
    · rename_i hs
      injection e with e
      injection e with e1 e2
      subst e1
      exact ⟨hs, by rw [← e2]; exact hp⟩
    · rename_i hs
      exact absurd hs (no_dummy h _)
    · split at e
      · cases e
      · exact ih _ ((adv_dummy _ _).trans hp) e
theorem free_ok {t : SetTable} (h : Ok t) {x : Int} {j : Nat} {b : Bool} (e : t.freeSlot x = some (j, b)) : t.slot j = .empty := by
  unfold SetTable.freeSlot at e
  split at e
  · rename_i j' d hq
    obtain ⟨q1, q2⟩ := probe_free h _ _ rfl hq
    subst q2
    injection e with e
    injection e with e1 e2
    have : j' = j := e1
    rw [← this]; exact q1
  · cases e
theorem stand_ok (t : SetTable) (n : Nat) : Ok (t.standIn n) := ⟨by
  unfold SetTable.standIn Rise
  simp [List.pairwise_lt_range], rfl⟩
theorem put_ok {t : SetTable} (h : Ok t) {j : Nat} (e : t.slot j = .empty) : Ok (t.put j).1 := by
  have hh : SetTable.has t.dummies j = false := by rw [h.d]; rfl
  unfold SetTable.put
  dsimp only
  refine ⟨rise_ins h.r (slot_free h e), ?_⟩
  show (if SetTable.has t.dummies j = true then _ else t.dummies) = #[]
  rw [hh, if_neg (by simp)]
  exact h.d
theorem lay_ok {t : SetTable} (h : Ok t) (es : Array (Int × Value)) (x : Int) (v : Value) : Ok (layNew t es x v).2.1 ∧ (layNew t es x v).2.1.led = t.led := by
  unfold layNew
  split
  · rename_i j b hq
    have := put_ok h (free_ok h hq)
    dsimp only
    unfold SetTable.orStandIn
    split
    · exact ⟨this, rfl⟩
    · exact ⟨stand_ok _ _, rfl⟩
  · exact ⟨stand_ok _ _, rfl⟩
theorem fst_sub {f : Nat → Option Nat} : ∀ l : List Nat, List.Sublist ((l.filterMap fun j => (f j).map fun b => (j, b)).map (·.1)) l
  | [] => List.Sublist.refl _
  | a :: l => by
    rw [List.filterMap_cons]
    cases hf : f a with
    | none => simpa [hf] using (fst_sub l).cons a
    | some b => simpa [hf] using fst_sub l
theorem laid_ok {m fi mo : Nat} {le pl : Bool} {hs : Array Int} {t : SetTable} {o : Array Nat} (e : SetTable.laid m fi mo le pl hs = some (t, o)) : Ok t ∧ t.led = le := by
  unfold SetTable.laid at e
  cases hc : SetTable.layClean m hs with
  | none => rw [hc] at e; cases e
  | some ow =>
    rw [hc] at e
    injection e with e
    injection e with e1 e2
    subst e1
    refine ⟨⟨?_, rfl⟩, rfl⟩
    unfold Rise
    dsimp only
    exact List.Pairwise.sublist (fst_sub (f := fun j => ow.getD j none) _) List.pairwise_lt_range
theorem relay_ok (t : SetTable) (es : Array (Int × Value)) (n : Nat) : Ok (relayAll t es n).2.1 ∧ (relayAll t es n).2.1.led = t.led := by
  unfold relayAll
  split
  · rename_i t' o hq
    unfold SetTable.relaid at hq
    dsimp only
    split
    · exact laid_ok hq
    · exact ⟨stand_ok _ _, rfl⟩
  · exact ⟨stand_ok _ _, rfl⟩
end SW

set_option linter.all false
set_option Elab.async false
set_option maxRecDepth 100000
set_option maxHeartbeats 4000000
namespace SW
open PySem PySem.Spec PyProof.Rows
/-! ### a set of numbers: made, filled -/
def byT (w : World) : Bool := w.params.followText "set-order"
def vN : Value → Int
  | .int n _ => n
  | _ => 0
/-- a set of just the numbers ns, in any order -/
def SetIs (w : World) (o : Obj) (ns : List Int) : Prop :=
  o.ExactSet ∧ ns.Nodup ∧ ∃ es ep t, o.data = .set es ep t ∧ (∀ e ∈ es.toList, ∃ n tk, e = (hashInt n, Value.int n tk)) ∧ (es.toList.map fun e => vN e.2).Perm ns ∧ t.fits es.size = true ∧ Ok t ∧ t.led = !byT w
theorem fresh_is (w : World) : SetIs w { cls := .type "set", dict := none, data := .set #[] 0 (.fresh 0 0 (!byT w)) } [] :=
  ⟨⟨rfl, rfl, rfl⟩, List.nodup_nil, #[], 0, _, rfl, fun e he => by simp at he, List.Perm.refl _, by rfl, ⟨List.Pairwise.nil, rfl⟩, rfl⟩
section
variable {prog : Program} {w : World} {A : Around} {E : Value → Shared → Prop} {s : Shared}
theorem elems {es : List (Int × Value)} (h : ∀ e ∈ es, ∃ n tk, e = (hashInt n, Value.int n tk)) : ElemsOf (intKind prog w) es := fun e he => by
  obtain ⟨n, tk, rfl⟩ := h e he
  exact ⟨⟨n, intKind_is _ _ _ _, rfl⟩, rfl⟩
theorem put_get {h : Heap} {a : Addr} {o : Obj} {es es' : Array (Int × Value)} {ep : Nat} {t t' : SetTable} (ho : h.get? a = some o) (hd : o.data = .set es ep t) :
    (h.update a (Obj.putSet es' t')).get? a = some { o with data := .set es' (ep + 1) t' } := by
  have := Heap.get?_update_self (Obj.putSet es' t') ho (by rw [putSet_of es' t' hd]; rfl)
  rwa [putSet_of es' t' hd] at this
theorem tail_is {g : Bool → Sem Unit} (hg : ∀ (b : Bool) (s1 : Shared) (Q' : Unit → Shared → Prop), Q' () s1 → wpAny (model prog w) A (g b) Q' E s1)
    {a : Addr} {o : Obj} {es es1 : Array (Int × Value)} {ep : Nat} {t t2 : SetTable} {ns : List Int} (ho : s.heap.get? a = some o) (hex : o.ExactSet) (hd : o.data = .set es ep t) (hnd : ns.Nodup)
    (hel : ∀ e ∈ es1.toList, ∃ n tk, e = (hashInt n, Value.int n tk)) (hp : (es1.toList.map fun e => vN e.2).Perm ns) (hb : es1.size < scanBound) (hf : t2.fits es1.size = true) (hok : Ok t2) (hl : t2.led = !byT w) {wd : Bool} {R : Option Bool → Shared → Prop}
    (h : ∀ h' o', Heap.SameBut a s.heap h' → h'.get? a = some o' → SetIs w o' ns → R (some true) { s with heap := h' }) :
    wpAny (model prog w) A (do
        storeSet a es1 t2
        if (!wd && t2.tooFull) = true then do
            g (relayAll t2 es1 (SetTable.grown es1.size)).2.2
            storeSet a (relayAll t2 es1 (SetTable.grown es1.size)).1 (relayAll t2 es1 (SetTable.grown es1.size)).2.1
            pure (some true)
          else pure (some true)) R E s := by
  refine wpAny_bind (wpAny_storeSet_of ho hd ?_ (fits_of_scanBound hb))
  have ho1 := put_get (es' := es1) (t' := t2) ho hd
  have sb1 := Heap.SameBut.update s.heap a (Obj.putSet es1 t2)
  split
  · have q1 := relayAll_perm t2 es1 (SetTable.grown es1.size)
    have q2 := relayAll_fits t2 es1 (SetTable.grown es1.size)
    obtain ⟨q3, q4⟩ := relay_ok t2 es1 (SetTable.grown es1.size)
    generalize relayAll t2 es1 (SetTable.grown es1.size) = Rl at q1 q2 q3 q4 ⊢
    obtain ⟨es2, t3, gave⟩ := Rl
    dsimp only at q1 q2 q3 q4 ⊢
    have hz : es2.size < scanBound := by rw [← Array.length_toList, q1.length_eq, Array.length_toList]; exact hb
    refine wpAny_bind (hg _ _ _ (wpAny_bind (wpAny_storeSet_of ho1 rfl ?_ (fits_of_scanBound hz))))
    have ho2 := put_get (es' := es2) (t' := t3) ho1 rfl
    exact wpAny_pure (h _ _ (sb1.trans (Heap.SameBut.update _ a _)) ho2 ⟨hex, hnd, es2, _, t3, rfl, fun e he => hel e (q1.mem_iff.mp he), (q1.map _).trans hp, q2, q3, q4.trans hl⟩)
  · exact wpAny_pure (h _ _ sb1 ho1 ⟨hex, hnd, es1, _, t2, rfl, hel, hp, hf, hok, hl⟩)
theorem ok_off {t : SetTable} (h : Ok t) : Ok ({ t with plain := false } : SetTable) := ⟨h.r, h.d⟩
theorem add_is {a : Addr} {o : Obj} {ns : List Int} {k : Int} {u : Tok} {Q : Bool → Shared → Prop} (ho : s.heap.get? a = some o) (hs : SetIs w o ns) (hb : ns.length + 1 < scanBound)
    (h : ∀ h' o' ns' b, Heap.SameBut a s.heap h' → h'.get? a = some o' → SetIs w o' ns' → (∀ j, j ∈ ns' ↔ j ∈ ns ∨ j = k) → ns'.length ≤ ns.length + 1 → Q b { s with heap := h' }) :
    wpAny (model prog w) A (setAddHashed a (.int k u) (hashInt k)) Q E s := by
  obtain ⟨hex, hnd, es, ep, t, hd, hel, hp, hf, hok, hl⟩ := id hs
  have hz : es.size = ns.length := by have := hp.length_eq; simpa using this
  unfold setAddHashed setAddHashedIn
  refine wpAny_holding (wpAny_bind (wpAny_setState_of ho hd hf ?_))
  dsimp only
  rw [byScan_of (knd := intKind prog w) (x := .int k u) rfl (by omega) (elems hel)]
  simp only [↓reduceIte]
  unfold setAddByScan
  refine wpAny_bind (wpAny_bind (wpAny_rule (wpAny_bind (wpAny_setScan_of (knd := intKind prog w) (k := k) (intKind_is _ _ _ _) ho hd hf (elems hel) ?_))))
  cases hr : List.findIdx? (fun e => (intKind prog w).is k e.2) es.toList with
  | some j =>
    dsimp only
    obtain ⟨hj, hpj, _⟩ := List.findIdx?_eq_some_iff_getElem.mp hr
    have hm : k ∈ ns := by
      obtain ⟨n, tk, e⟩ := hel _ (List.getElem_mem hj)
      have e2 : n = k := by
        rw [e] at hpj
        exact ((intKind prog w).inj _ _ _ hpj (intKind_is _ _ _ _)).symm
      refine hp.mem_iff.mp (List.mem_map.mpr ⟨_, List.getElem_mem hj, ?_⟩)
      rw [e]; exact e2
    have := h s.heap o ns false (Heap.SameBut.refl a s.heap) ho hs (fun j => ⟨.inl, fun q => q.elim id fun e => e ▸ hm⟩) (by omega)
    exact wpAny_pure (wpAny_pure this)
  | none =>
    dsimp only
    have hm : k ∉ ns := fun q => by
      obtain ⟨e, he, q1⟩ := List.mem_map.mp (hp.mem_iff.mpr q)
      obtain ⟨n, tk, rfl⟩ := hel e he
      have := List.findIdx?_eq_none_iff.mp hr _ he
      have e2 : n = k := q1
      subst e2
      rw [intKind_is] at this
      cases this
    have hgw : ∀ (b : Bool) {s1 : Shared} {Q' : Unit → Shared → Prop}, Q' () s1 → wpAny (model prog w) A (match b with | true => rule "set.scan.the-table-gave-way" | false => pure ()) Q' E s1 :=
      fun b s1 Q' hq => by cases b <;> first | exact wpAny_pure hq | exact wpAny_rule hq
    have q1 := layNew_perm t es (hashInt k) (.int k u)
    have q2 := layNew_fits t es (hashInt k) (.int k u)
    obtain ⟨q3, q4⟩ := lay_ok hok es (hashInt k) (.int k u)
    show wpAny _ _ (match layNew t es (hashInt k) (.int k u) with | (es, t, wd, gave) => _) _ _ _
    generalize layNew t es (hashInt k) (.int k u) = L at q1 q2 q3 q4 ⊢
    obtain ⟨es1, t1, wd, gave⟩ := L
    dsimp only at q1 q2 q3 q4 ⊢
    rw [Array.toList_push] at q1
    have hel1 : ∀ e ∈ es1.toList, ∃ n tk, e = (hashInt n, Value.int n tk) := fun e he => by
      rcases List.mem_append.mp (q1.mem_iff.mp he) with c | c
      · exact hel e c
      · exact ⟨k, u, List.mem_singleton.mp c⟩
    have hp1 : (es1.toList.map fun e => vN e.2).Perm (ns ++ [k]) := by
      refine (q1.map _).trans ?_
      rw [List.map_append]
      exact hp.append_right _
    have hz1 : es1.size = ns.length + 1 := by have := hp1.length_eq; simpa using this
    have hnd1 : (ns ++ [k]).Nodup := List.nodup_append.mpr ⟨hnd, by simp, fun a ha b hb e => hm (by rw [← List.mem_singleton.mp hb, ← e]; exact ha)⟩
    refine wpAny_bind (hgw _ ?_)
    have fin : ∀ h' o', Heap.SameBut a s.heap h' → h'.get? a = some o' → SetIs w o' (ns ++ [k]) → Q true { s with heap := h' } := fun h' o' sb e1 e2 =>
      h h' o' _ true sb e1 e2 (fun j => by simp) (by simp)
    split
    · refine wpAny_bind ?_
      rw [hashByValue_scannable 8 rfl]
      refine wpAny_pure ?_
      refine tail_is ?_ ho hex hd hnd1 hel1 hp1 (by omega) (by split <;> first | exact q2 | exact SetTable.fits_plain_off q2) (by split <;> first | exact q3 | exact ok_off q3) (by split <;> exact q4.trans hl) ?_
      · intro b s1 Q' hq; cases b <;> first | exact wpAny_pure hq | exact wpAny_rule hq
      · intro h' o' sb e1 e2; dsimp only; exact wpAny_pure (fin h' o' sb e1 e2)
    · refine wpAny_bind (wpAny_pure ?_)
      simp only [↓reduceIte]
      refine tail_is ?_ ho hex hd hnd1 hel1 hp1 (by omega) q2 q3 (q4.trans hl) ?_
      · intro b s1 Q' hq; cases b <;> first | exact wpAny_pure hq | exact wpAny_rule hq
      · intro h' o' sb e1 e2; dsimp only; exact wpAny_pure (fin h' o' sb e1 e2)
/-- setAdd of a number -/
theorem addv_is {a : Addr} {o : Obj} {ns : List Int} {k : Int} {u : Tok} {Q : Bool → Shared → Prop} (ho : s.heap.get? a = some o) (hs : SetIs w o ns) (hb : ns.length + 1 < scanBound)
    (h : ∀ h' o' ns' b, Heap.SameBut a s.heap h' → h'.get? a = some o' → SetIs w o' ns' → (∀ j, j ∈ ns' ↔ j ∈ ns ∨ j = k) → ns'.length ≤ ns.length + 1 → Q b { s with heap := h', toks := s.toks + 1 }) :
    wpAny (model prog w) A (setAdd a (.int k u)) Q E s := by
  unfold setAdd
  refine wpAny_holding (wpAny_bind ((intKind prog w).pyHash (k := k) (intKind_is _ _ _ _) ?_))
  exact add_is (s := { s with toks := s.toks + 1 }) ho hs hb h
end
section
variable {prog : Program} {w : World} {A : Around} {R : Result → Shared → Prop} {I : Addr} {fp wr : List Addr} {n : Nat} {P : Nat → Value → Prop} {St : Nat → Heap → Prop}
theorem upd_loop (W : Walks prog w A.in1 I fp wr n P St) (S : Addr) (hSf : S ∉ fp) (xs : List Int) (hval : ∀ i v, P i v → ∃ x t, xs[i]? = some x ∧ v = .int x t) (hn : xs.length = n) (hb : n + 1 < scanBound) :
    ∀ (k i : Nat) (s : Shared) (o : Obj) (ns : List Int), n - i = k → i ≤ n → St i s.heap → s.heap.get? S = some o → SetIs w o ns → (∀ j, j ∈ ns ↔ j ∈ xs.take i) → ns.length ≤ i →
      (∀ h' tk o' ns', (∀ b o, b ≠ S → b ∉ wr → s.heap.get? b = some o → h'.get? b = some o) → h'.get? S = some o' → SetIs w o' ns' → (∀ j, j ∈ ns' ↔ j ∈ xs) → ns'.length ≤ n → R (.ok (.ret .none)) { s with heap := h', toks := tk }) →
      codeAny (model prog w) A (.builtin "set.update.loop" ⟨[.ref S, .ref I], []⟩) R s := by
  have hSw : S ∉ wr := fun h => hSf (W.sub _ h)
  intro k
  induction k with
  | zero =>
    intro i s o ns hk hi hst ho hs hm hl hR
    have hin : i = n := by omega
    subst hin
    refine codeAny_builtin F.entry_set_update_loop ?_
    rw [Around.under_plainId F.plain_set_update_loop _]
    show wpAny _ A.in1 (pyNext (.ref I) >>= _) _ _ s
    refine wpAny_bind (W.done s _ _ hst fun h' tk kp => ?_)
    show wpAny _ A.in1 (ret Value.none) _ _ _
    exact wpAny_pure (hR h' tk o ns (fun b o _ hb e => kp b o hb e) (kp S o hSw ho) hs (fun j => by rw [hm j, List.take_of_length_le (by omega)]) hl)
  | succ k ih =>
    intro i s o ns hk hi hst ho hs hm hl hR
    have hlt : i < n := by omega
    refine codeAny_builtin F.entry_set_update_loop ?_
    rw [Around.under_plainId F.plain_set_update_loop _]
    show wpAny _ A.in1 (pyNext (.ref I) >>= _) _ _ s
    refine wpAny_bind (W.item i s _ _ hlt hst fun v h1 tk hP hst' kp => ?_)
    obtain ⟨x, t, hx, rfl⟩ := hval i v hP
    show wpAny _ A.in1 (holding [Value.int x t] (setAdd S (.int x t)) >>= _) _ _ _
    refine wpAny_bind (wpAny_holding ?_)
    refine addv_is (s := { s with heap := h1, toks := tk }) (kp S o hSw ho) hs (by omega) fun h2 o2 ns2 b sb e1 e2 e3 e4 => ?_
    refine wpAny_pure ⟨plainId_quiet F.plain_set_update_loop _, ?_⟩
    refine ih (i + 1) _ o2 ns2 (by omega) hlt (W.frame _ _ _ hst' fun c hc oc q => sb.extBut c oc (fun z => hSf (z ▸ hc)) q) e1 e2 (fun j => ?_) (by omega) fun h' tk' o' ns' z1 z2 z3 z4 z5 => hR h' tk' o' ns' (fun c oc c1 c2 q => z1 c oc c1 c2 (sb.extBut c oc c1 (kp c oc c2 q))) z2 z3 z4 z5
    rw [e3 j, hm j, List.take_add_one, hx]
    simp
end
section
variable {prog : Program} {w : World} {A : Around} {E : Value → Shared → Prop} {s : Shared}
theorem set_new1 (a : Value) {Q₁ : Value → Shared → Prop} (h : Q₁ (.ref s.heap.objs.size) { s with heap := s.heap.push { cls := .type "set", dict := none, data := .set #[] 0 (.fresh 0 0 (!byT w)) } }) :
    codeAny (model prog w) A (.call (.builtin "set.__new__") ⟨[.type "set", a], []⟩) (wants Q₁ E) s := by
  refine codeAny_of_tree ?_
  show wpAny _ A.in1 (do checkBuiltinCall "set.__new__" ⟨[.type "set", a], []⟩; again (.builtin "set.__new__" ⟨[.type "set", a], []⟩)) _ _ s
  refine wpAny_bind (wpAny_of_eq (F.newCall_set_1 a) (wpAny_pure ⟨plainId_quiet F.plain_set_new _, codeAny_builtin F.entry_set_new ?_⟩))
  rw [Around.under_plainId F.plain_set_new _]
  unfold Builtin.«set.__new__» Builtin.Frozenset.newClass
  have hsub := sub_set_self
  obtain ⟨hp, g, d, tk, os⟩ := s
  dsimp only
  wp_walk
  refine wpAny_askSetting (wpAny_pure ?_)
  dsimp only
  simp only [newObj]
  refine wpAny_bind (wpAny_alloc (wpAny_pure ?_))
  exact wpAny_pure h
end
end SW

set_option linter.all false
set_option Elab.async false
set_option maxRecDepth 100000
set_option maxHeartbeats 4000000
namespace SW
open PySem PySem.Spec PyProof.Rows
section
variable {prog : Program} {w : World} {A : Around} {E : Value → Shared → Prop} {s : Shared}
/-- set(list of numbers) -/
theorem call_set {l : Addr} {vs : List Value} {ns : List Int} {Q : Value → Shared → Prop} (hh : A.handled = none) (hl : s.heap.IsList l vs.toArray) (hi : IntsAre vs ns) (hb : vs.length + 1 < scanBound)
    (h : ∀ h' tk o ms, h'.get? s.heap.objs.size = some o → SetIs w o ms → (∀ j, j ∈ ms ↔ j ∈ ns) → ms.length ≤ ns.length → (∀ b o, s.heap.get? b = some o → h'.get? b = some o) → Q (.ref s.heap.objs.size) { s with heap := h', toks := tk }) :
    wpAny (model prog w) A (call (.type "set") [.ref l]) Q E s := by
  have hvn : vs.length = ns.length := IntsAre.length hi
  obtain ⟨c, tl, hmro⟩ := F.called_set.mro
  have hmade := F.called_set.made; have hsub := F.called_set.sub
  refine wpAny_call (codeAny_of_tree (?_ : wpAny _ _ (callAny (.type "set") _) _ _ _))
  refine wpAny_pure ⟨Code.quiet_builtin _ (by decide +kernel), codeAny_builtin F.entry_type_call ?_⟩
  rw [Around.under_plain (weight_type_call_type "set" [.ref l] []) rfl]
  have h1 := F.called_set.notType; have h2 := F.called_set.canCreate
  have hct := F.typeCall_set_1 (.ref l)
  repeat (any_goals (first | assumption | wp_step))
  refine codeAny_mono (set_new1 (.ref l) (E := E) (Q₁ := fun ob s1 => ob = .ref s.heap.objs.size ∧ s1 = { s with heap := s.heap.push { cls := .type "set", dict := none, data := .set #[] 0 (.fresh 0 0 (!byT w)) } }) ⟨rfl, rfl⟩) fun r s1 hr => ?_
  cases r with
  | error e => exact hr
  | ok fl =>
    cases fl with
    | ret ob =>
      obtain ⟨rfl, rfl⟩ := hr
      have hS : (s.heap.push { cls := .type "set", dict := none, data := .set #[] 0 (.fresh 0 0 (!byT w)) }).get? s.heap.objs.size = some { cls := .type "set", dict := none, data := .set #[] 0 (.fresh 0 0 (!byT w)) } := Heap.get?_push_size _ rfl
      have hT : Shared.TypeIs { s with heap := s.heap.push { cls := .type "set", dict := none, data := .set #[] 0 (.fresh 0 0 (!byT w)) } } (.ref s.heap.objs.size) "set" := ⟨_, hS, rfl⟩
      have hli := F.called_set.init.lookup; have hbi := F.called_set.init.bind (.ref s.heap.objs.size)
      repeat (any_goals (first | assumption | wp_step))
      refine codeAny_mono (codeAny_call_builtin (R := wants (fun r s2 => r = .none ∧ Q (.ref s.heap.objs.size) s2) E) F.called_set.init.plain F.entry_set_init (check_set_init_1 hT ?_)) fun r2 s2 hr2 => ?_
      · obtain ⟨ol, hol, hcl, nl, hdl⟩ := id hl
        obtain ⟨ocls, odict, odata, oslots⟩ := ol
        simp only at hcl hdl
        subst hcl; subst hdl
        have hol' : (s.heap.push { cls := .type "set", dict := none, data := .set #[] 0 (.fresh 0 0 (!byT w)) }).get? l = some { cls := .type "list", dict := odict, data := .seq vs.toArray nl, slots := oslots } := Heap.get?_push_of_some _ hol
        have hsls := F.sub_list_set; have hslf := F.sub_list_frozenset
        have hne : (Value.type "list" == Value.type "dict") = false := by decide
        have hl1 : (s.heap.push { cls := .type "set", dict := none, data := .set #[] 0 (.fresh 0 0 (!byT w)) }).IsList l vs.toArray := ⟨_, hol', rfl, nl, rfl⟩
        unfold Builtin.«set.__init__» noKeywords Builtin.Frozenset.updateFrom
        generalize hPI : pyIter = PI
        wp_walk
        subst hPI
        refine wpAny_pyIter_list hl1 (wpAny_bind (wpAny_runValue ?_))
        have hlS : l < s.heap.objs.size := Heap.lt_size hol
        have hh3 : A.in1.in1.in1.handled = none := by simp [hh]
        have hneI : l ≠ (s.heap.push { cls := .type "set", dict := none, data := .set #[] 0 (.fresh 0 0 (!byT w)) }).objs.size := by
          rw [Heap.size_push]; exact Nat.ne_of_lt (Nat.lt_succ_of_lt hlS)
        have hSf : s.heap.objs.size ∉ [(s.heap.push { cls := .type "set", dict := none, data := .set #[] 0 (.fresh 0 0 (!byT w)) }).objs.size, l] := by
          rw [Heap.size_push]; simp only [List.mem_cons, List.mem_singleton, List.not_mem_nil, or_false, not_or]
          exact ⟨Nat.ne_of_lt (Nat.lt_succ_self _), Nat.ne_of_gt hlS⟩
        refine upd_loop (Walks.list hh3 _ l hneI vs.toArray) s.heap.objs.size hSf ns (fun i v hv => ?_) (by simp [hvn]) (by simpa using hb) (vs.toArray.size - 0) 0 _ _ [] (by omega) (Nat.zero_le _) ⟨⟨_, Heap.get?_push_size _ rfl, rfl, rfl⟩, hl1.push _⟩ (Heap.get?_push_of_some _ hS) (fresh_is w) (fun j => by simp) (Nat.le_refl _) fun h' tk o ms z1 z2 z3 z4 z5 => ?_
        · obtain ⟨x, hx⟩ : ∃ x, ns[i]? = some x := by
            have : i < vs.length := by
              rcases Nat.lt_or_ge i vs.length with q | q
              · exact q
              · have : vs.toArray[i]? = none := by simp [q]
                rw [this] at hv; cases hv
            exact ⟨ns[i]'(by omega), by simp [← hvn, this]⟩
          obtain ⟨t, ht⟩ := PyProof.Rows.IntsAre.int_at hi i v (by simpa using hv)
          refine ⟨x, t, hx, ?_⟩
          rw [ht, List.getD_eq_getElem?_getD, hx]; rfl
        · refine wpAny_pure (wpAny_pure ⟨rfl, h h' tk o ms z2 z3 z4 (by have := z5; simp at this; omega) fun b o q => ?_⟩)
          have hb := Heap.lt_size q
          exact z1 b o (Nat.ne_of_lt hb) (fun q => Nat.ne_of_lt (Nat.lt_succ_of_lt hb) (by rw [List.mem_singleton.mp q, Heap.size_push])) (Heap.get?_push_of_some _ (Heap.get?_push_of_some _ q))
      · cases r2 with
        | error e => exact hr2
        | ok fl2 =>
          cases fl2 with
          | ret r =>
            obtain ⟨rfl, hq⟩ := hr2
            repeat (any_goals (first | assumption | wp_step))
          | _ => exact hr2.elim
    | _ => exact hr.elim
end
end SW

set_option linter.all false
set_option Elab.async false
set_option maxRecDepth 100000
set_option maxHeartbeats 4000000
namespace SW
open PySem PySem.Spec PyProof.Rows
/-! ### going through a set -/
theorem slot_next : Slot "set_iterator" "__next__" "set_iterator.__next__" :=
  .of (owner := "set_iterator") (n := "__next__") (by rw [typeLookup_type, builtinLookup_eq_fast]; kernel_rfl) (by decide +kernel) (by decide +kernel) (by decide +kernel) (by first | exact .inl (by decide +kernel) | exact .inr (by decide +kernel)) (by rw [isSubtype_type]; kernel_rfl)
theorem entry_next : entryFor table "set_iterator.__next__" = some Builtin.«set_iterator.__next__» := entryFor_of_tree (by kernel_rfl)
theorem owner_si : Manifest.owners.lookup (String.ofList ['r', 'o', 't', 'a', 'r', 'e', 't', 'i', '_', 't', 'e', 's'].reverse) = some Manifest.sig_set_iterator := by kernel_rfl
theorem args_next (a : Value) : argsOk "set_iterator.__next__" ⟨[a], []⟩ := by
  unfold argsOk; rw [signature?_of (id := "set_iterator.__next__") (n := ['_', '_', 't', 'x', 'e', 'n', '_', '_']) (o := ['r', 'o', 't', 'a', 'r', 'e', 't', 'i', '_', 't', 'e', 's']) (by kernel_rfl) owner_si]; kernel_rfl
theorem slot_iter : Slot "set_iterator" "__iter__" "set_iterator.__iter__" :=
  .of (owner := "set_iterator") (n := "__iter__") (by rw [typeLookup_type, builtinLookup_eq_fast]; kernel_rfl) (by decide +kernel) (by decide +kernel) (by decide +kernel) (by first | exact .inl (by decide +kernel) | exact .inr (by decide +kernel)) (by rw [isSubtype_type]; kernel_rfl)
theorem entry_iter : entryFor table "set_iterator.__iter__" = some Builtin.«dict_keyiterator.__iter__» := entryFor_alias (id' := "dict_keyiterator.__iter__") (by kernel_rfl) rfl (by decide +kernel) (by kernel_rfl)
theorem args_iter (a : Value) : argsOk "set_iterator.__iter__" ⟨[a], []⟩ := by
  unfold argsOk; rw [signature?_of (id := "set_iterator.__iter__") (n := ['_', '_', 'r', 'e', 't', 'i', '_', '_']) (o := ['r', 'o', 't', 'a', 'r', 'e', 't', 'i', '_', 't', 'e', 's']) (by kernel_rfl) owner_si]; kernel_rfl
theorem entry_siter : entryFor table "set.__iter__" = some Builtin.«frozenset.__iter__» := entryFor_alias (id' := "frozenset.__iter__") (by kernel_rfl) rfl (by decide +kernel) (by kernel_rfl)
/-- an iterator of the set D: the first field, how many were given, the size, the epoch -/
def SIt (h : Heap) (I : Addr) (f : Value) (i : Nat) (D : Addr) (n ep : Nat) : Prop := ∃ o, h.get? I = some o ∧ o.cls = .type "set_iterator" ∧ o.data = .fields #[f, rawInt i, .ref D, rawInt n, rawInt ep]
theorem SIt.at {h h' : Heap} {I D : Addr} {f : Value} {i n ep : Nat} (x : SIt h I f i D n ep) (e : ∀ o, h.get? I = some o → h'.get? I = some o) : SIt h' I f i D n ep := let ⟨o, ho, r⟩ := x; ⟨o, e _ ho, r⟩
theorem SIt.ty {s : Shared} {I D : Addr} {f : Value} {i n ep : Nat} (x : SIt s.heap I f i D n ep) : s.TypeIs (.ref I) "set_iterator" := let ⟨o, ho, hc, _⟩ := x; ⟨o, ho, hc⟩
section
variable {prog : Program} {w : World} {A : Around} {E : Value → Shared → Prop} {s : Shared}
theorem ch_ok {M : Model} {src : Source} {n : Nat} {Q : Nat → Shared → Prop} (hn : n ≠ 0) (h : ∀ i d, i < n → Q i { s with drawn := d }) : wpAny M A (choose src n) Q E s := fun Γ p hΓ => by
  show n ≠ 0 ∧ _
  exact ⟨hn, h _ _ (Nat.mod_lt _ (Nat.pos_of_ne_zero hn))⟩
theorem pick_perm {α : Type} {xs : List α} {i : Nat} (h : i < xs.length) : (xs[i] :: xs.eraseIdx i).Perm xs := by
  rw [List.eraseIdx_eq_take_drop_succ]
  refine List.perm_middle.symm.trans ?_
  rw [← List.drop_eq_getElem_cons h, List.take_append_drop]
theorem draw_ok {M : Model} {α : Type} : ∀ (n : Nat) (xs : List α) (s : Shared) (Q : List α → Shared → Prop), xs.length = n → (∀ ys d, ys.Perm xs → Q ys { s with drawn := d }) → wpAny M A (drawOrder n xs) Q E s := by
  intro n
  induction n with
  | zero =>
    intro xs s Q hl h
    have : xs = [] := List.length_eq_zero_iff.mp hl
    subst this
    unfold drawOrder
    exact wpAny_pure (h [] s.drawn (List.Perm.refl _))
  | succ n ih =>
    intro xs s Q hl h
    obtain ⟨x, xs, rfl⟩ : ∃ x r, xs = x :: r := by
      cases xs with
      | nil => cases hl
      | cons x r => exact ⟨x, r, rfl⟩
    unfold drawOrder
    refine wpAny_bind (ch_ok (by simp) fun i d hi => ?_)
    rw [List.getElem?_eq_getElem hi]
    dsimp only
    refine wpAny_bind (ih _ _ _ (by rw [List.length_eraseIdx_of_lt hi]; simpa using hl) fun ys d' hy => wpAny_pure (h _ d' ?_))
    exact (hy.cons _).trans (pick_perm hi)
theorem stop_raise {Q : Fin → Shared → Prop} {E : Value → Shared → Prop} (hh : A.handled = none) (h : ∀ h' e, (∀ b o, s.heap.get? b = some o → h'.get? b = some o) → (∃ o, h'.get? e = some o ∧ o.cls = .type "StopIteration") → E (.ref e) { s with heap := h' }) :
    wpAny (model prog w) A (newExc (.type "StopIteration") [] >>= fun e => raiseNew e) Q E s := by
  refine wpAny_bind ?_
  simp only [newExc, newTuple]
  refine wpAny_bind (wpAny_newObj_type ?_ (by size_fits))
  refine wpAny_bind (m := firstArgMember _ _) (wpAny_of_eq (a := Value.none) (by first | rfl | (simp only [firstArgMember]; rfl)) ?_)
  refine wpAny_newObj_type ?_ (by size_fits)
  simp only [raiseNew]
  refine wpAny_bind (wpAny_handled ?_)
  rw [show A.handled = none from hh]
  refine wpAny_bind (wpAny_pure (wpAny_throw ?_))
  exact h _ _ (fun b o q => Heap.get?_push_of_some _ (Heap.get?_push_of_some _ q)) ⟨_, Heap.get?_push_size _ rfl, rfl⟩
/-- one turn of the iterator -/
theorem next_of {I : Addr} {f : Value} {i n ep : Nat} {D : Addr} {Q : Option Value → Shared → Prop} (hit : SIt s.heap I f i D n ep)
    (h : wpAny (model prog w) A.in1 (Builtin.«set_iterator.__next__» ⟨[.ref I], []⟩) (fun fin s' => ∃ r, fin = .done (.ret r) ∧ Q (some r) s') (fun e s' => ∃ a o, e = .ref a ∧ s'.heap.get? a = some o ∧ o.cls = .type "StopIteration" ∧ Q none s') s) :
    wpAny (model prog w) A (pyNext (.ref I)) Q E s := by
  unfold pyNext
  refine wpAny_bind (wpAny_attempt (wpAny_callSpecial?_slot (name := Str.ofString "__next__") hit.ty slot_next (wpAny_call_entry slot_next hit.ty entry_next ?_ (args_next _))))
  refine wpAny_mono h (fun fin s' ⟨r, e, q⟩ => ⟨r, e, wpAny_pure q⟩) fun e s' ⟨a, o, e1, e2, e3, q⟩ => ?_
  subst e1
  exact wpAny_bind (wpAny_isInstance (T := "StopIteration") (b := true) ⟨o, e2, e3⟩ isSubtype_stop (wpAny_pure q))
theorem same2 {h : Heap} {I D : Addr} {f : Value} {i n ep : Nat} {o : Obj} (ho : h.get? I = some o) (hd : o.data = .fields #[f, rawInt i, .ref D, rawInt n, rawInt ep]) (k : Nat) (x : Value) :
    (h.update I (Obj.mapFields (·.setIfInBounds k x))).get? I = some (Obj.mapFields (·.setIfInBounds k x) o) := Heap.get?_update_self _ ho (Obj.isFreed_of_fields (Obj.data_mapFields hd _))
/-- by numbers: slots or the text's order -/
theorem int_item {I D : Addr} {sl i n ep nx : Nat} {o : Obj} {es : Array (Int × Value)} {t : SetTable} {x : Value} {Q : Option Value → Shared → Prop} (hit : SIt s.heap I (rawInt sl) i D n ep) (hD : s.heap.get? D = some o) (hd : o.data = .set es ep t) (hf : t.fits es.size = true) (hn : es.size = n)
    (hx : ∀ (E' : Value → Shared → Prop) (Q' : Option (Value × Nat) → Shared → Prop), Q' (some (x, nx)) s → wpAny (model prog w) A.in1 (setNext D sl i ep) Q' E' s)
    (hQ : ∀ h', SIt h' I (rawInt nx) (i + 1) D n ep → Heap.SameBut I s.heap h' → Q (some x) { s with heap := h' }) : wpAny (model prog w) A (pyNext (.ref I)) Q E s := by
  obtain ⟨oi, hoi, hci, hdi⟩ := id hit
  refine next_of hit ?_
  unfold Builtin.«set_iterator.__next__»
  refine wpAny_bind (wpAny_pure (wpAny_bind (wpAny_fieldsOf hoi hdi ?_)))
  show wpAny _ _ (setEntries D >>= _) _ _ s
  refine wpAny_bind (wpAny_setEntries_of hD hd hf ?_)
  rw [if_neg (by rw [hn]; simp)]
  show wpAny _ _ (setNext D (Int.toNat (sl : Int)) (Int.toNat (i : Int)) (Int.toNat (ep : Int)) >>= _) _ _ s
  simp only [Int.toNat_natCast]
  refine wpAny_bind (hx _ _ ?_)
  show wpAny _ _ (setField (.ref I) 0 (rawInt nx) >>= _) _ _ s
  refine wpAny_bind (wpAny_setField hoi hdi (by simp) ?_)
  have e1 := same2 hoi hdi 0 (rawInt nx)
  have d1 : (Obj.mapFields (·.setIfInBounds 0 (rawInt nx)) oi).data = .fields #[rawInt nx, rawInt i, .ref D, rawInt n, rawInt ep] := by rw [Obj.data_mapFields hdi]; rfl
  show wpAny _ _ (setField (.ref I) 1 (rawInt ((i : Int) + 1)) >>= _) _ _ _
  refine wpAny_bind (wpAny_setField e1 d1 (by simp) ?_)
  refine wpAny_pure ⟨_, rfl, hQ _ ⟨_, same2 e1 d1 1 _, ?_, ?_⟩ ((Heap.SameBut.update ..).trans (Heap.SameBut.update ..))⟩
  · exact (Obj.cls_mapFields ..).trans ((Obj.cls_mapFields ..).trans hci)
  · rw [Obj.data_mapFields d1]; rfl
theorem int_end {I D : Addr} {sl i n ep : Nat} {o : Obj} {es : Array (Int × Value)} {t : SetTable} {Q : Option Value → Shared → Prop} (hh : A.handled = none) (hit : SIt s.heap I (rawInt sl) i D n ep) (hD : s.heap.get? D = some o) (hd : o.data = .set es ep t) (hf : t.fits es.size = true) (hn : es.size = n)
    (hx : ∀ (E' : Value → Shared → Prop) (Q' : Option (Value × Nat) → Shared → Prop), Q' none s → wpAny (model prog w) A.in1 (setNext D sl i ep) Q' E' s)
    (hQ : ∀ h', (∀ b o, b ≠ I → s.heap.get? b = some o → h'.get? b = some o) → Q none { s with heap := h' }) : wpAny (model prog w) A (pyNext (.ref I)) Q E s := by
  obtain ⟨oi, hoi, hci, hdi⟩ := id hit
  refine next_of hit ?_
  unfold Builtin.«set_iterator.__next__»
  refine wpAny_bind (wpAny_pure (wpAny_bind (wpAny_fieldsOf hoi hdi ?_)))
  show wpAny _ _ (setEntries D >>= _) _ _ s
  refine wpAny_bind (wpAny_setEntries_of hD hd hf ?_)
  rw [if_neg (by rw [hn]; simp)]
  show wpAny _ _ (setNext D (Int.toNat (sl : Int)) (Int.toNat (i : Int)) (Int.toNat (ep : Int)) >>= _) _ _ s
  simp only [Int.toNat_natCast]
  refine wpAny_bind (hx _ _ ?_)
  show wpAny _ _ (setField (.ref I) 2 .none >>= _) _ _ s
  refine wpAny_bind (wpAny_setField hoi hdi (by simp) ?_)
  refine stop_raise hh fun h' e k ⟨o2, q1, q2⟩ => ⟨e, o2, rfl, q1, q2, hQ h' fun b o hb q => k b o ((Heap.get?_update_other _ _ (Ne.symm hb)).trans q)⟩
/-- by drawn places -/
theorem tup_item {I D T : Addr} {i n ep p : Nat} {o ot : Obj} {c : Nat} {ps : Array Value} {es : Array (Int × Value)} {t : SetTable} {x : Int × Value} {u : Tok} {Q : Option Value → Shared → Prop} (hit : SIt s.heap I (.ref T) i D n ep) (hD : s.heap.get? D = some o) (hd : o.data = .set es ep t) (hf : t.fits es.size = true) (hn : es.size = n)
    (hT : s.heap.get? T = some ot) (hTd : ot.data = .seq ps c) (hp : ps[i]? = some (.int p u)) (hx : es[p]? = some x)
    (hQ : ∀ h', SIt h' I (.ref T) (i + 1) D n ep → Heap.SameBut I s.heap h' → Q (some x.2) { s with heap := h' }) : wpAny (model prog w) A (pyNext (.ref I)) Q E s := by
  obtain ⟨oi, hoi, hci, hdi⟩ := id hit
  refine next_of hit ?_
  unfold Builtin.«set_iterator.__next__»
  refine wpAny_bind (wpAny_pure (wpAny_bind (wpAny_fieldsOf hoi hdi ?_)))
  show wpAny _ _ (setEntries D >>= _) _ _ s
  refine wpAny_bind (wpAny_setEntries_of hD hd hf ?_)
  rw [if_neg (by rw [hn]; simp)]
  show wpAny _ _ (seqItems? (.ref T) >>= _) _ _ s
  refine wpAny_bind (wpAny_seqItems hT hTd ?_)
  show wpAny _ _ (match ps[Int.toNat (i : Int)]? with | some (.int place _) => _ | some _ => _ | none => _) _ _ s
  rw [Int.toNat_natCast, hp]
  show wpAny _ _ (setNextDrawn D (Int.toNat (p : Int)) (Int.toNat (ep : Int)) >>= _) _ _ s
  simp only [Int.toNat_natCast]
  unfold setNextDrawn
  refine wpAny_bind (wpAny_bind (wpAny_setState_of hD hd hf ?_))
  dsimp only
  rw [if_neg (by simp)]
  rw [hx]
  refine wpAny_pure ?_
  show wpAny _ _ (setField (.ref I) 1 (rawInt ((i : Int) + 1)) >>= _) _ _ _
  refine wpAny_bind (wpAny_setField hoi hdi (by simp) ?_)
  refine wpAny_pure ⟨_, rfl, hQ _ ⟨_, same2 hoi hdi 1 _, ?_, ?_⟩ (Heap.SameBut.update ..)⟩
  · exact (Obj.cls_mapFields ..).trans hci
  · rw [Obj.data_mapFields hdi]; rfl
theorem tup_end {I D T : Addr} {i n ep : Nat} {o ot : Obj} {c : Nat} {ps : Array Value} {es : Array (Int × Value)} {t : SetTable} {Q : Option Value → Shared → Prop} (hh : A.handled = none) (hit : SIt s.heap I (.ref T) i D n ep) (hD : s.heap.get? D = some o) (hd : o.data = .set es ep t) (hf : t.fits es.size = true) (hn : es.size = n)
    (hT : s.heap.get? T = some ot) (hTd : ot.data = .seq ps c) (hp : ps[i]? = none)
    (hQ : ∀ h', (∀ b o, b ≠ I → s.heap.get? b = some o → h'.get? b = some o) → Q none { s with heap := h' }) : wpAny (model prog w) A (pyNext (.ref I)) Q E s := by
  obtain ⟨oi, hoi, hci, hdi⟩ := id hit
  refine next_of hit ?_
  unfold Builtin.«set_iterator.__next__»
  refine wpAny_bind (wpAny_pure (wpAny_bind (wpAny_fieldsOf hoi hdi ?_)))
  show wpAny _ _ (setEntries D >>= _) _ _ s
  refine wpAny_bind (wpAny_setEntries_of hD hd hf ?_)
  rw [if_neg (by rw [hn]; simp)]
  show wpAny _ _ (seqItems? (.ref T) >>= _) _ _ s
  refine wpAny_bind (wpAny_seqItems hT hTd ?_)
  show wpAny _ _ (match ps[Int.toNat (i : Int)]? with | some (.int place _) => _ | some _ => _ | none => _) _ _ s
  rw [Int.toNat_natCast, hp]
  show wpAny _ _ (setField (.ref I) 0 (rawInt 0) >>= _) _ _ s
  refine wpAny_bind (wpAny_setField hoi hdi (by simp) ?_)
  have e1 := same2 hoi hdi 0 (rawInt 0)
  have d1 : (Obj.mapFields (·.setIfInBounds 0 (rawInt 0)) oi).data = .fields #[rawInt 0, rawInt i, .ref D, rawInt n, rawInt ep] := by rw [Obj.data_mapFields hdi]; rfl
  show wpAny _ _ (setField (.ref I) 2 .none >>= _) _ _ _
  refine wpAny_bind (wpAny_setField e1 d1 (by simp) ?_)
  refine stop_raise hh fun h' e k ⟨o2, q1, q2⟩ => ⟨e, o2, rfl, q1, q2, hQ h' fun b o hb q => k b o ((Heap.get?_update_other _ _ (Ne.symm hb)).trans ((Heap.get?_update_other _ _ (Ne.symm hb)).trans q))⟩
end
end SW

set_option linter.all false
set_option Elab.async false
set_option maxRecDepth 100000
set_option maxHeartbeats 4000000
namespace SW
open PySem PySem.Spec PyProof.Rows
theorem pick_go {α : Type} (f : Nat → Nat) : ∀ (n k : Nat) (l : List α) (out : Array α), l.length = n → (pickOrder.go f n k l out).toList.Perm (out.toList ++ l) := by
  intro n
  induction n with
  | zero =>
    intro k l out hl
    have : l = [] := List.length_eq_zero_iff.mp hl
    subst this
    unfold pickOrder.go
    simp
  | succ n ih =>
    intro k l out hl
    unfold pickOrder.go
    have hi : f k % l.length < l.length := Nat.mod_lt _ (by omega)
    rw [List.getElem?_eq_getElem hi]
    dsimp only
    refine (ih _ _ _ (by rw [List.length_eraseIdx_of_lt hi]; omega)).trans ?_
    rw [Array.toList_push, List.append_assoc]
    exact (pick_perm hi).append_left _
theorem pick_ok {α : Type} (f : Nat → Nat) (xs : Array α) : (pickOrder f xs).toList.Perm xs.toList := by
  unfold pickOrder
  simpa using pick_go f xs.size 0 xs.toList #[] (by simp)
theorem ints_vals {es : List (Int × Value)} (h : ∀ e ∈ es, ∃ n tk, e = (hashInt n, Value.int n tk)) : IntsAre (es.map (·.2)) (es.map fun e => vN e.2) := by
  induction es with
  | nil => exact .nil
  | cons e es ih =>
    obtain ⟨n, tk, rfl⟩ := h e (.head _)
    exact .cons n tk (ih fun x hx => h x (.tail _ hx))
section
variable {prog : Program} {w : World} {A : Around} {E : Value → Shared → Prop} {s : Shared}
theorem self_is {I D : Addr} {f : Value} {i n ep : Nat} {Q : Value → Shared → Prop} (hit : SIt s.heap I f i D n ep) (h : Q (.ref I) s) : wpAny (model prog w) A (pyIter (.ref I)) Q E s := by
  refine wpAny_pyIter_slot hit.ty slot_iter (wpAny_call_entry slot_iter hit.ty entry_iter (?_ : wpAny _ _ (ret (.ref I)) _ _ s) (args_iter _))
  exact wpAny_pure ⟨_, rfl, "set_iterator", _, hit.ty, slot_next.lookup, h⟩
theorem by_ok {Q : Bool → Shared → Prop} (h : Q (byT w) s) : wpAny (model prog w) A setsByText Q E s := by
  unfold setsByText
  exact wpAny_bind (wpAny_askSetting (wpAny_pure h))
/-- the text's order -/
theorem walk_text {D : Addr} {o : Obj} {es : Array (Int × Value)} {ep : Nat} {t : SetTable} (hd : o.data = .set es ep t) (hf : t.fits es.size = true) (hb : byT w = true) (hh : A.handled = none) (I : Addr) (hne : D ≠ I) :
    Walks prog w A I [I, D] [I] es.size (fun i v => ((pickOrder (w.params.setOrder D ep) es).toList.map (·.2))[i]? = some v) (fun i h => SIt h I (rawInt 0) i D es.size ep ∧ h.get? D = some o) where
  sub := fun b hb => by simp at hb; simp [hb]
  frame := fun _ _ _ st hk => ⟨st.1.at fun o e => hk I (by simp) o e, hk D (by simp) _ st.2⟩
  item := fun i s Q E hi st hQ => by
    have hz : (pickOrder (w.params.setOrder D ep) es).size = es.size := by have := (pick_ok (w.params.setOrder D ep) es).length_eq; simpa using this
    have hx : (pickOrder (w.params.setOrder D ep) es)[i]? = some ((pickOrder (w.params.setOrder D ep) es)[i]'(by omega)) := by simp [hz, hi]
    refine int_item (nx := 0) (x := ((pickOrder (w.params.setOrder D ep) es)[i]'(by omega)).2) st.1 st.2 hd hf rfl (fun E' Q' q => ?_) fun h' hit' sb => hQ _ h' s.toks (by simp [hz, hi]) ⟨hit', sb.extBut _ _ hne st.2⟩ fun b o hb e => sb.extBut b o (fun h => hb (by simp [h])) e
    unfold setNext
    refine wpAny_bind (wpAny_setState_of st.2 hd hf ?_)
    dsimp only
    refine wpAny_bind (by_ok ?_)
    rw [if_pos hb, if_neg (by simp)]
    unfold setWalk
    refine wpAny_bind (wpAny_bind (wpAny_setState_of st.2 hd hf ?_))
    dsimp only
    refine wpAny_bind (by_ok ?_)
    rw [if_pos hb]
    refine wpAny_bind (wpAny_askSetting (wpAny_pure (wpAny_pure ?_)))
    show Q' (Option.map _ (pickOrder (w.params.setOrder D ep) es)[i]?) _
    rw [hx]; exact q
  done := fun s Q E st hQ => by
    have hz : (pickOrder (w.params.setOrder D ep) es).size = es.size := by have := (pick_ok (w.params.setOrder D ep) es).length_eq; simpa using this
    refine int_end hh st.1 st.2 hd hf rfl (fun E' Q' q => ?_) fun h' k => hQ h' s.toks fun b o hb e => k b o (fun h => hb (by simp [h])) e
    unfold setNext
    refine wpAny_bind (wpAny_setState_of st.2 hd hf ?_)
    dsimp only
    refine wpAny_bind (by_ok ?_)
    rw [if_pos hb, if_neg (by simp)]
    unfold setWalk
    refine wpAny_bind (wpAny_bind (wpAny_setState_of st.2 hd hf ?_))
    dsimp only
    refine wpAny_bind (by_ok ?_)
    rw [if_pos hb]
    refine wpAny_bind (wpAny_askSetting (wpAny_pure (wpAny_pure ?_)))
    show Q' (Option.map _ (pickOrder (w.params.setOrder D ep) es)[es.size]?) _
    rw [Array.getElem?_eq_none (by omega)]; exact q
  self := fun _ _ _ _ st hQ => self_is st.1 hQ
theorem slot_lem {t : SetTable} {n i sl : Nat} (hok : Ok t) (hz : t.place.size = n) (hi : i < n) (hs : SetTable.below t.place sl = i) : ∃ j, t.place[i]? = some j ∧ SetTable.below t.place (j + 1) = i + 1 := by
  subst hz
  refine ⟨t.place[i], by simp [hi], ?_⟩
  obtain ⟨b1, b2, b3⟩ := bel (t.place[i] + 1) hok.r
  rcases Nat.lt_trichotomy (SetTable.below t.place (t.place[i] + 1)) (i + 1) with c | c | c
  · have := b3 i hi (by omega); omega
  · exact c
  · have h1 := b2 (i + 1) (by omega) c
    have := rise_at hok.r (by omega : i < i + 1) (by omega : i + 1 < t.place.size)
    omega
/-- the slots' order -/
theorem walk_slots {D : Addr} {o : Obj} {es : Array (Int × Value)} {ep : Nat} {t : SetTable} (hd : o.data = .set es ep t) (hf : t.fits es.size = true) (hok : Ok t) (hb : byT w = false) (hl : t.led = true) (hp : (!t.plain && decide (es.size > 1)) = false) (hh : A.handled = none) (I : Addr) (hne : D ≠ I) :
    Walks prog w A I [I, D] [I] es.size (fun i v => (es.toList.map (·.2))[i]? = some v) (fun i h => (∃ sl : Nat, SIt h I (rawInt sl) i D es.size ep ∧ SetTable.below t.place sl = i) ∧ h.get? D = some o) where
  sub := fun b hb => by simp at hb; simp [hb]
  frame := fun _ _ _ ⟨⟨sl, st, e1⟩, e2⟩ hk => ⟨⟨sl, st.at fun o e => hk I (by simp) o e, e1⟩, hk D (by simp) _ e2⟩
  item := fun i s Q E hi ⟨⟨sl, st, e1⟩, e2⟩ hQ => by
    have hz : t.place.size = es.size := by
      unfold SetTable.fits at hf
      simp only [Bool.and_eq_true, beq_iff_eq] at hf
      exact hf.1
    obtain ⟨j, z1, z2⟩ := slot_lem hok hz hi e1
    refine int_item (nx := j + 1) (x := (es[i]).2) st e2 hd hf rfl (fun E' Q' q => ?_) fun h' hit' sb => hQ _ h' s.toks (by simp [hi]) ⟨⟨_, hit', z2⟩, sb.extBut _ _ hne e2⟩ fun b o hb e => sb.extBut b o (fun h => hb (by simp [h])) e
    unfold setNext
    refine wpAny_bind (wpAny_setState_of e2 hd hf ?_)
    dsimp only
    refine wpAny_bind (by_ok ?_)
    rw [if_neg (by rw [hb]; simp)]
    split
    · rename_i hc
      exact absurd (show (!t.plain && decide (es.size > 1)) = true from hc) (by rw [hp]; simp)
    · show wpAny _ _ ((if (!t.led && !es.isEmpty) = true then _ else _) >>= _) _ _ _
      rw [if_neg (by rw [hl]; simp)]
      refine wpAny_bind (wpAny_pure (wpAny_pure ?_))
      rw [e1, z1, Array.getElem?_eq_getElem hi]
      exact q
  done := fun s Q E ⟨⟨sl, st, e1⟩, e2⟩ hQ => by
    refine int_end hh st e2 hd hf rfl (fun E' Q' q => ?_) fun h' k => hQ h' s.toks fun b o hb e => k b o (fun h => hb (by simp [h])) e
    unfold setNext
    refine wpAny_bind (wpAny_setState_of e2 hd hf ?_)
    dsimp only
    refine wpAny_bind (by_ok ?_)
    rw [if_neg (by rw [hb]; simp)]
    split
    · rename_i hc
      exact absurd (show (!t.plain && decide (es.size > 1)) = true from hc) (by rw [hp]; simp)
    · show wpAny _ _ ((if (!t.led && !es.isEmpty) = true then _ else _) >>= _) _ _ _
      rw [if_neg (by rw [hl]; simp)]
      refine wpAny_bind (wpAny_pure (wpAny_pure ?_))
      rw [e1, Array.getElem?_eq_none (Nat.le_refl _)]
      exact q
  self := fun _ _ _ _ ⟨⟨sl, st, e1⟩, e2⟩ hQ => self_is st hQ
/-- a drawn order -/
theorem walk_drawn {D T : Addr} {o ot : Obj} {es : Array (Int × Value)} {ep c : Nat} {t : SetTable} {ys : List Nat} (hd : o.data = .set es ep t) (hf : t.fits es.size = true) (hTd : ot.data = .seq (ys.map fun (i : Nat) => rawInt i).toArray c) (hy : ys.Perm (List.range es.size)) (hh : A.handled = none) (I : Addr) (hne : D ≠ I) (hnT : T ≠ I) :
    Walks prog w A I [I, D, T] [I] es.size (fun i v => (ys.map fun p => (es.toList.map (·.2)).getD p .none)[i]? = some v) (fun i h => SIt h I (.ref T) i D es.size ep ∧ h.get? D = some o ∧ h.get? T = some ot) where
  sub := fun b hb => by simp at hb; simp [hb]
  frame := fun _ _ _ st hk => ⟨st.1.at fun o e => hk I (by simp) o e, hk D (by simp) _ st.2.1, hk T (by simp) _ st.2.2⟩
  item := fun i s Q E hi st hQ => by
    have hz : ys.length = es.size := by simpa using hy.length_eq
    have hp : ys[i]'(by omega) < es.size := by
      have := hy.mem_iff.mp (List.getElem_mem (by omega : i < ys.length))
      simpa using this
    refine tup_item (p := ys[i]'(by omega)) (x := es[ys[i]'(by omega)]'hp) (u := 0) st.1 st.2.1 hd hf rfl st.2.2 hTd (by simp [hz, hi, rawInt]) (by simp [hp]) fun h' hit' sb => hQ _ h' s.toks ?_ ⟨hit', sb.extBut _ _ hne st.2.1, sb.extBut _ _ hnT st.2.2⟩ fun b o hb e => sb.extBut b o (fun h => hb (by simp [h])) e
    simp [hz, hi, hp]
  done := fun s Q E st hQ => by
    have hz : ys.length = es.size := by simpa using hy.length_eq
    exact tup_end hh st.1 st.2.1 hd hf rfl st.2.2 hTd (by simp [hz]) fun h' k => hQ h' s.toks fun b o hb e => k b o (fun h => hb (by simp [h])) e
  self := fun _ _ _ _ st hQ => self_is st.1 hQ
end
theorem ints_getD {us : List Value} {ns : List Int} (h : IntsAre us ns) : ∀ (ys : List Nat), (∀ y ∈ ys, y < us.length) → IntsAre (ys.map fun p => us.getD p .none) (ys.map fun p => ns.getD p 0)
  | [], _ => .nil
  | y :: ys, hy => by
    have hlt := hy y (.head _)
    obtain ⟨t, ht⟩ := PyProof.Rows.IntsAre.int_at h y (us[y]) (by simp [hlt])
    have e : us.getD y .none = .int (ns.getD y 0) t := by rw [List.getD_eq_getElem?_getD, List.getElem?_eq_getElem hlt]; exact ht
    rw [List.map_cons, List.map_cons, e]
    exact .cons _ t (ints_getD h ys fun z hz => hy z (.tail _ hz))
theorem range_getD (ns : List Int) : (List.range ns.length).map (fun p => ns.getD p 0) = ns := by
  apply List.ext_getElem
  · simp
  · intro i h1 h2
    simp at h1
    simp [h1]
section
variable {prog : Program} {w : World} {A : Around} {E : Value → Shared → Prop} {s : Shared}
theorem iter_is {D : Addr} {o : Obj} {ns : List Int} {Q : Value → Shared → Prop} (ho : s.heap.get? D = some o) (hs : SetIs w o ns) (hz : ns.length < scanBound)
    (h : ∀ (I : Addr) (s1 : Shared) (fp : List Addr) (ord : List Value) (St : Nat → Heap → Prop) (ms : List Int) (n : Nat), n = ns.length → (∀ b o, s.heap.get? b = some o → s1.heap.get? b = some o) → s1.os = s.os → s1.gens = s.gens → (∀ b ∈ fp, b = D ∨ s.heap.objs.size ≤ b) → (∀ b ∈ fp, b < s1.heap.objs.size) →
      (∀ A' : Around, A'.handled = none → Walks prog w A' I fp [I] n (fun i v => ord[i]? = some v) St) → St 0 s1.heap → IntsAre ord ms → ms.Perm ns → s.heap.objs.size ≤ I → Q (.ref I) s1) :
    wpAny (model prog w) A (pyIter (.ref D)) Q E s := by
  obtain ⟨hex, hnd, es, ep, t, hd, hel, hp, hf, hok, hl⟩ := id hs
  have hT : s.TypeIs (.ref D) "set" := ⟨o, ho, hex.1⟩
  have hn : es.size = ns.length := by simpa using hp.length_eq
  have hDlt := Heap.lt_size ho
  refine wpAny_pyIter_slot hT F.slot_set_iter (wpAny_call_entry F.slot_set_iter hT entry_siter ?_ (F.args_set_iter_1 _))
  unfold Builtin.«frozenset.__iter__» Builtin.Frozenset.slot0 Builtin.Frozenset.sizeOf
  refine wpAny_bind (wpAny_bind (wpAny_pure ?_))
  refine wpAny_pure (wpAny_bind (wpAny_bind (wpAny_setEntries_of ho hd hf (wpAny_pure ?_))))
  unfold setDrawn
  refine wpAny_bind (wpAny_bind (wpAny_setState_of ho hd hf ?_))
  dsimp only
  refine wpAny_bind (by_ok (wpAny_pure ?_))
  split
  · rename_i hc
    have hc' : (!byT w && (!t.plain && decide (es.size > 1))) = true := hc
    refine wpAny_bind (draw_ok es.size (List.range es.size) s _ (by simp) fun ys d hy => ?_)
    have hyz : ys.length = es.size := by simpa using hy.length_eq
    have hb : byT w = false := by cases hq : byT w <;> simp [hq] at hc' ⊢
    refine wpAny_bind (wpAny_newTuple ?_ (by rw [List.length_map, hyz, hn]; exact fits_of_scanBound hz))
    refine wpAny_bind (wpAny_setEpoch_of (Heap.get?_push_of_some _ ho) hd hf (wpAny_bind (wpAny_newObj_type (wpAny_pure ⟨_, rfl, "set_iterator", _, ⟨_, Heap.get?_push_size _ rfl, rfl⟩, slot_next.lookup, ?_⟩))))
    refine h _ _ [(s.heap.push _).objs.size, D, s.heap.objs.size] (ys.map fun p => (es.toList.map (·.2)).getD p .none) _ (ys.map fun p => (es.toList.map fun e => vN e.2).getD p 0) _ hn (fun b o q => Heap.get?_push_of_some _ (Heap.get?_push_of_some _ q)) rfl rfl ?_ ?_ (fun A' hh => walk_drawn hd hf (T := s.heap.objs.size) rfl hy hh _ (by rw [Heap.size_push]; exact Nat.ne_of_lt (Nat.lt_succ_of_lt hDlt)) (by rw [Heap.size_push]; exact Nat.ne_of_lt (Nat.lt_succ_self _))) ⟨⟨_, Heap.get?_push_size _ rfl, rfl, rfl⟩, Heap.get?_push_of_some _ (Heap.get?_push_of_some _ ho), Heap.get?_push_of_some _ (Heap.get?_push_size _ rfl)⟩ (ints_getD (ints_vals hel) ys fun y hy' => ?_) ?_ (by rw [Heap.size_push]; exact Nat.le_succ _)
    · intro b hb
      rcases List.mem_cons.mp hb with rfl | hb
      · exact .inr (by rw [Heap.size_push]; exact Nat.le_succ _)
      · rcases List.mem_cons.mp hb with rfl | hb
        · exact .inl rfl
        · exact .inr (Nat.le_of_eq (List.mem_singleton.mp hb).symm)
    · intro b hb
      show b < ((s.heap.push _).push _).objs.size
      rw [Heap.size_push, Heap.size_push]
      rcases List.mem_cons.mp hb with rfl | hb
      · rw [Heap.size_push]; exact Nat.lt_succ_self _
      · rcases List.mem_cons.mp hb with rfl | hb
        · exact Nat.lt_succ_of_lt (Nat.lt_succ_of_lt hDlt)
        · rw [List.mem_singleton.mp hb]; exact Nat.lt_succ_of_lt (Nat.lt_succ_self _)
    · have := hy.mem_iff.mp hy'
      simpa using this
    · have e := range_getD (es.toList.map fun e => vN e.2)
      have e2 : (es.toList.map fun e => vN e.2).length = es.size := by simp
      rw [e2] at e
      exact ((hy.map _).trans (List.Perm.of_eq e)).trans hp
  · rename_i hc
    have hc' : ¬ (!byT w && (!t.plain && decide (es.size > 1))) = true := hc
    refine wpAny_bind (wpAny_pure (wpAny_bind (wpAny_setEpoch_of ho hd hf (wpAny_bind (wpAny_newObj_type (wpAny_pure ⟨_, rfl, "set_iterator", _, ⟨_, Heap.get?_push_size _ rfl, rfl⟩, slot_next.lookup, ?_⟩))))))
    have hit : SIt (s.heap.push { cls := .type "set_iterator", data := .fields #[rawInt 0, rawInt 0, .ref D, rawInt es.size, rawInt ep] }) s.heap.objs.size (rawInt 0) 0 D es.size ep := ⟨_, Heap.get?_push_size _ rfl, rfl, rfl⟩
    have hne : D ≠ s.heap.objs.size := Nat.ne_of_lt hDlt
    cases hb : byT w with
    | true =>
      refine h _ _ [s.heap.objs.size, D] _ _ ((pickOrder (w.params.setOrder D ep) es).toList.map fun e => vN e.2) _ hn (fun b o q => Heap.get?_push_of_some _ q) rfl rfl ?_ ?_ (fun A' hh => walk_text hd hf hb hh _ hne) ⟨hit, Heap.get?_push_of_some _ ho⟩ (ints_vals fun e he => hel e ((pick_ok _ es).mem_iff.mp he)) (((pick_ok _ es).map _).trans hp) (Nat.le_refl _)
      · intro b hb
        rcases List.mem_cons.mp hb with rfl | hb
        · exact .inr (Nat.le_refl _)
        · exact .inl (List.mem_singleton.mp hb)
      · intro b hb
        show b < (s.heap.push _).objs.size
        rw [Heap.size_push]
        rcases List.mem_cons.mp hb with rfl | hb
        · exact Nat.lt_succ_self _
        · rw [List.mem_singleton.mp hb]; exact Nat.lt_succ_of_lt hDlt
    | false =>
      have hpl : (!t.plain && decide (es.size > 1)) = false := by
        rw [hb] at hc'; simpa using hc'
      refine h _ _ [s.heap.objs.size, D] _ _ (es.toList.map fun e => vN e.2) _ hn (fun b o q => Heap.get?_push_of_some _ q) rfl rfl ?_ ?_ (fun A' hh => walk_slots hd hf hok hb (by rw [hl, hb]; rfl) hpl hh _ hne) ⟨⟨0, hit, ?_⟩, Heap.get?_push_of_some _ ho⟩ (ints_vals hel) hp (Nat.le_refl _)
      · intro b hb
        rcases List.mem_cons.mp hb with rfl | hb
        · exact .inr (Nat.le_refl _)
        · exact .inl (List.mem_singleton.mp hb)
      · intro b hb
        show b < (s.heap.push _).objs.size
        rw [Heap.size_push]
        rcases List.mem_cons.mp hb with rfl | hb
        · exact Nat.lt_succ_self _
        · rw [List.mem_singleton.mp hb]; exact Nat.lt_succ_of_lt hDlt
      · obtain ⟨b1, b2, b3⟩ := bel 0 hok.r
        rcases Nat.eq_zero_or_pos (SetTable.below t.place 0) with c | c
        · exact c
        · exact absurd (b2 0 (by omega) c) (Nat.not_lt_zero _)
theorem set_hint {D : Addr} {Q : Bool → Shared → Prop} (hT : s.TypeIs (.ref D) "set") (h : Q false s) : wpAny (model prog w) A (Builtin.List.listLengthHint (.ref D)) Q E s := by
  unfold Builtin.List.listLengthHint
  refine wpAny_bind (wpAny_specialOf hT PySem.F.slot_set_len.lookup ?_)
  generalize hid : ("set.__len__" : String) = id0
  wp_delta
  rw [show splitId id0 = some ("set", "__len__") from by subst hid; decide +kernel]
  subst hid
  refine wpAny_bind (wpAny_isInstance (T := "set") (b := true) hT (by rw [isSubtype_type]; kernel_rfl) ?_)
  refine wpAny_ite_split (fun hab => absurd hab (by decide)) (fun _ => ?_)
  refine wpAny_ite_split (fun _ => wpAny_bind (wpAny_typeOf hT (wpAny_pure h))) (fun hab => absurd (by decide +kernel) hab)
/-- what a set holds, as a list -/
theorem collect_is {D : Addr} {o : Obj} {ns : List Int} {Q : List Value → Shared → Prop} (hh : A.handled = none) (ho : s.heap.get? D = some o) (hs : SetIs w o ns) (hz : ns.length < scanBound)
    (h : ∀ (s1 : Shared) (vs : List Value) (ms : List Int), (∀ b o, s.heap.get? b = some o → s1.heap.get? b = some o) → s1.os = s.os → s1.gens = s.gens → s.heap.objs.size ≤ s1.heap.objs.size → IntsAre vs ms → ms.Perm ns → Q vs s1) :
    wpAny (model prog w) A (collect (.ref D)) Q E s := by
  have hDlt := Heap.lt_size ho
  have hT : s.TypeIs (.ref D) "set" := ⟨o, ho, hs.1.1⟩
  unfold collect
  refine wpAny_bind (wpAny_runValue (codeAny_builtin F.entry_proto_collect ?_))
  rw [Around.under_plainId F.plain_proto_collect _]
  refine (?_ : wpAny _ A.in1 (newList [] >>= fun l => again (.builtin "list.__iadd__" ⟨[l, .ref D], []⟩)) _ _ s)
  refine wpAny_bind (wpAny_newObj_type (wpAny_pure ⟨plainId_quiet F.plain_list_iadd _, codeAny_builtin F.entry_list_iadd ?_⟩))
  rw [Around.under_plainId F.plain_list_iadd _]
  have hS : (s.heap.push { cls := .type "list", data := .seq ([] : List Value).toArray }).get? s.heap.objs.size = some { cls := .type "list", data := .seq ([] : List Value).toArray } := Heap.get?_push_size _ rfl
  generalize hH : s.heap.push { cls := .type "list", data := .seq ([] : List Value).toArray } = H at hS ⊢
  have kH : ∀ b o, s.heap.get? b = some o → H.get? b = some o := fun b o q => by rw [← hH]; exact Heap.get?_push_of_some _ q
  have zH : H.objs.size = s.heap.objs.size + 1 := by rw [← hH, Heap.size_push]
  have ne : s.heap.objs.size ≠ D := Nat.ne_of_gt hDlt
  have h1 : Builtin.List.listSameRef (.ref s.heap.objs.size) (.ref D) = false := by simp [Builtin.List.listSameRef, ne]
  refine (?_ : wpAny _ A.in1 (Builtin.List.listExtendWith (.ref s.heap.objs.size) (.ref D) (.ref s.heap.objs.size)) _ _ _)
  unfold Builtin.List.listExtendWith
  refine wpAny_bind (wpAny_typeOf (T := "set") ⟨o, kH _ _ ho, hs.1.1⟩ ?_)
  rw [if_neg (by rw [h1]; decide)]
  refine wpAny_bind (iter_is (s := { s with heap := H }) (kH _ _ ho) hs hz fun I s1 fp ord St ms n hn k1 k2 k3 k4 k5 W st hi hp hI => ?_)
  refine wpAny_bind (wpAny_holding (set_hint ⟨o, k1 _ _ (kH _ _ ho), hs.1.1⟩ ?_))
  have hSf : s.heap.objs.size ∉ fp := fun q => by
    rcases k4 _ q with e | e
    · exact ne e
    · rw [show ({ s with heap := H } : Shared).heap.objs.size = s.heap.objs.size + 1 from zH] at e
      exact absurd e (Nat.not_succ_le_self _)
  have fin : ∀ s2 : Shared, St 0 s2.heap → (∀ b o, b ≠ s.heap.objs.size → s1.heap.get? b = some o → s2.heap.get? b = some o) → s2.os = s1.os → s2.gens = s1.gens → (∃ c, s2.heap.get? s.heap.objs.size = some { cls := .type "list", dict := none, data := .seq #[] c, slots := #[] }) →
      codeAny (model prog w) A (.builtin "list.extend.loop" ⟨[.ref s.heap.objs.size, .ref I, .ref s.heap.objs.size], []⟩) (fun r s' => ∃ v, r = .ok (.ret v) ∧ wpAny (model prog w) A (match v with | .ref a => (do match (← load a).data with | .seq xs _ => pure xs.toList | _ => unsupported "internal:collect") | _ => unsupported "internal:collect") Q E s') s2 := by
    intro s2 st2 kk ko kg ⟨c, hc⟩
    refine codeAny_extend_loopS (W A.in1 hh).toS (by rw [hn]; exact fits_of_scanBound hz) _ hSf _ n 0 s2 #[] c rfl (Nat.zero_le _) st2 hc (ItemsOf.nil _) fun s3 acc c' hm hS3 hacc => ⟨_, rfl, ?_⟩
    refine wpAny_bind (wpAny_load hS3 (wpAny_pure ?_))
    have e : acc.toList = ord := by
      have hl : ord.length = n := by rw [hn]; exact (IntsAre.length hi).trans hp.length_eq
      apply List.ext_getElem
      · rw [Array.length_toList, hacc.1, hl]
      · intro i z1 z2
        have this : ord[i]? = some acc[i] := hacc.2 i acc[i] (by simp)
        rw [List.getElem?_eq_getElem z2] at this
        injection this with this
        rw [Array.getElem_toList]; exact this.symm
    rw [e]
    refine h s3 ord ms (fun b o q => ?_) (by rw [hm.os, ko, k2]) (by rw [hm.gens, kg, k3]) ?_ hi hp
    · have hb := Heap.lt_size q
      refine hm.heap b o (fun z => ?_) (kk b o (Nat.ne_of_lt hb) (k1 b o (kH b o q)))
      rcases List.mem_cons.mp z with e | z
      · exact Nat.ne_of_lt hb e
      · rw [List.mem_singleton.mp z] at hb
        exact absurd (Nat.lt_of_lt_of_le hb (Nat.le_trans (by rw [show ({ s with heap := H } : Shared).heap.objs.size = s.heap.objs.size + 1 from zH]; exact Nat.le_succ _) hI)) (Nat.lt_irrefl _)
    · exact Nat.le_of_lt (Heap.lt_size hS3)
  have hS1 : s1.heap.get? s.heap.objs.size = some { cls := .type "list", data := .seq ([] : List Value).toArray } := k1 _ _ hS
  refine wpAny_ite_split (fun _ => ?_) (fun _ => wpAny_pure ⟨plainId_quiet PySem.F.plain_extend_loop _, ?_⟩)
  · refine wpAny_bind (wpAny_rule (wpAny_bind (?_ : wpAny _ _ (updateSeq s.heap.objs.size (·.push .none) >>= fun _ => updateSeq s.heap.objs.size (·.pop)) _ _ _)))
    refine wpAny_bind (wpAny_updateSeq hS1 rfl ?_)
    have hS2 := Heap.get?_update_self (Obj.mapSeq (·.push Value.none)) hS1 rfl
    refine wpAny_updateSeq (hz := by seq_fits) hS2 rfl ?_
    have hS3 := Heap.get?_update_self (Obj.mapSeq (·.pop)) hS2 rfl
    have oth : ∀ b o, b ≠ s.heap.objs.size → s1.heap.get? b = some o → ((s1.heap.update s.heap.objs.size (Obj.mapSeq (·.push Value.none))).update s.heap.objs.size (Obj.mapSeq (·.pop))).get? b = some o :=
      fun b o hb e => (Heap.get?_update_other _ _ (Ne.symm hb)).trans ((Heap.get?_update_other _ _ (Ne.symm hb)).trans e)
    refine wpAny_pure ⟨plainId_quiet PySem.F.plain_extend_loop _, codeAny_mono (fin _ ((W A hh).frame 0 _ _ st fun b hb o e => oth b o (fun z => hSf (z ▸ hb)) e) oth rfl rfl ⟨_, hS3⟩) fun r s' hr => ?_⟩
    obtain ⟨v, rfl, hv⟩ := hr
    exact hv
  · refine codeAny_mono (fin s1 st (fun b o _ q => q) rfl rfl ⟨_, hS1⟩) fun r s' hr => ?_
    obtain ⟨v, rfl, hv⟩ := hr
    exact hv
/-- sorted(set of numbers) -/
theorem sorted_is {D : Addr} {o : Obj} {ns : List Int} {Q : Value → Shared → Prop} (hh : A.handled = none) (ho : s.heap.get? D = some o) (hs : SetIs w o ns) (hz : ns.length ≤ 1000)
    (h : ∀ (s1 : Shared) (l : Addr) (out : List Value) (c : Nat) (ms : List Int), (∀ b o, s.heap.get? b = some o → s1.heap.get? b = some o) → s1.os = s.os → s1.gens = s.gens → s.heap.objs.size ≤ l → s1.heap.get? l = some (seqObj "list" out.toArray c) → IntsAre out ms → ms.Perm ns → ms.Pairwise (· ≤ ·) → Q (.ref l) s1) :
    wpAny (model prog w) A (call (.builtin "sorted") [.ref D]) Q E s := by
  refine Calls.call_function_entry kind_sorted plain_sorted entry_sorted (args_sorted1 _) ?_
  unfold Builtin.«sorted»
  refine wpAny_bind (m := checkCount "sorted" 1 1 _) (wpAny_pure ?_)
  refine wpAny_bind (collect_is (by exact hh) ho hs (by show _ < 4096; omega) fun s1 vs ms k1 k2 k3 k4 hi hp => ?_)
  have hl : vs.length ≤ 1000 := by rw [IntsAre.length hi, hp.length_eq]; exact hz
  refine wpAny_bind (wpAny_newList ?_ (by rw [sizeLine_eq]; omega))
  have hoL : (s1.heap.push (seqObj "list" vs.toArray 0)).get? s1.heap.objs.size = some (seqObj "list" vs.toArray 0) := Heap.get?_push_size _ rfl
  refine wpAny_bind (wpAny_holding (wpAny_call_entry (s := { s1 with heap := s1.heap.push (seqObj "list" vs.toArray 0) }) slot_list_sort ⟨_, hoL, rfl⟩ entry_list_sort (SB.sort_s hoL hi hl fun out ns' a1 a2 a3 => ⟨_, rfl, ?_⟩) (args_list_sort _)))
  refine wpAny_pure ⟨_, rfl, ?_⟩
  have g1 := Heap.get?_update_self (Obj.mapSeq fun _ => (#[] : Array Value)) hoL rfl
  have g2 := Heap.get?_push_of_some (seqObj "list" #[] 0) (Heap.get?_push_of_some (seqObj "tuple" vs.toArray 0) g1)
  have g3 := Heap.get?_update_self (Obj.mapSeq fun _ => out) g2 rfl
  refine h _ s1.heap.objs.size out.toList _ ns' (fun b o q => ?_) k2 k3 k4 (g3.trans (by rw [Array.toArray_toList]; rfl)) a1 (a2.trans hp) a3
  have hb := k1 b o q
  have ne : s1.heap.objs.size ≠ b := Nat.ne_of_gt (Heap.lt_size hb)
  exact (Heap.get?_update_other _ _ ne).trans (Heap.get?_push_of_some _ (Heap.get?_push_of_some _ ((Heap.get?_update_other _ _ ne).trans (Heap.get?_push_of_some _ hb))))
end
end SW

set_option linter.all false
set_option Elab.async false
set_option maxRecDepth 100000
set_option maxHeartbeats 4000000
namespace L2
open PySem PySem.Spec PyProof.Rows
/-! ### sorted(set(list of numbers)) -/
section
variable {X : Cx}
theorem Inv.drew {pins : List (Addr × Obj)} {σ : St} {H : Hp} {s s1 : Shared} (I : Inv X pins σ H s) (h1 : s1.heap = s.heap) (h2 : s1.os = s.os) (h3 : s1.gens = s.gens) : Inv X pins σ H s1 := by
  obtain ⟨a, b, c, d, e, f, g, i, j, k, l⟩ := I
  refine ⟨a, h2.trans b, h3 ▸ c, h1 ▸ d, h1 ▸ e, h1 ▸ f, g, i, h1 ▸ j, h1 ▸ k, l⟩
@[irreducible] def hSetS (K : PySem.W.Frag) (a : Addr) (H : Hp) (Q : VK) : Prop := ∃ ns : List Int, SqL K H a (ns.map V.int) ∧ ns.length ≤ 1000 ∧ ∀ (l : Addr) (ms : List Int), H l = none → ms.Nodup → (∀ j, j ∈ ms ↔ j ∈ ns) → ms.Pairwise (· ≤ ·) → Q (.ref l) (upd H l (.lst (ms.map V.int)))
def tSetS (K : PySem.W.Frag) (ta : TA) : TE := fun σ H Q => ta σ H fun vs H1 => match vs with
  | [.ref a] => hSetS K a H1 Q
  | _ => False
theorem boot_set : bootBuiltins "set" = some (.type "set") := by decide +kernel
theorem boot_srt : bootBuiltins "sorted" = some (.builtin "sorted") := by decide +kernel
/-- a set, as new as the state, sorted -/
theorem sort_new {s s1 : Shared} {pins : List (Addr × Obj)} {σ : St} {H : Hp} {Q : VK} {D : Addr} {o : Obj} {ns : List Int} (hc : X.calm = true) (I : Inv X pins σ H s) (k1 : ∀ b o, s.heap.get? b = some o → s1.heap.get? b = some o) (k2 : s1.os = s.os) (k3 : s1.gens = s.gens) (hD : s.heap.objs.size ≤ D) (ho : s1.heap.get? D = some o) (hs : SW.SetIs X.w o ns) (hn : ns.length ≤ 1000)
    (q : ∀ (l : Addr) (ms : List Int), H l = none → ms.Nodup → (∀ j, j ∈ ms ↔ j ∈ ns) → ms.Pairwise (· ≤ ·) → Q (.ref l) (upd H l (.lst (ms.map V.int)))) :
    wpAny (model X.prog X.w) X.A (call (.builtin "sorted") [.ref D]) (EP X pins σ Q) X.xe s1 := by
  have hz : s.heap.objs.size ≤ s1.heap.objs.size := Nat.le_trans hD (Nat.le_of_lt (Heap.lt_size ho))
  refine SW.sorted_is (I.ok.hd hc) ho hs hn fun s2 l out c ms z1 z2 z3 z4 z5 z6 z7 z8 => ?_
  have hf : s.heap.objs.size ≤ l := Nat.le_trans hz z4
  refine ⟨.ref l, _, ?_, rfl, q l ms (I.hok.fresh hf) (z7.nodup_iff.mpr hs.2.1) (fun j => z7.mem_iff) z8⟩
  refine (I.laid (t' := s.toks) (h' := s2.heap) (fun b o e => z1 b o (k1 b o e)) hf (show ObjOk X.prog X.w _ _ _ (.lst _) from ⟨?_, out, c, vals_ints z6, z5⟩)).drew rfl (z2.trans k2) (z3.trans k3)
  rw [List.length_map, z7.length_eq, sizeLine_eq]; omega
theorem qe_setS {l : Expr} {ta : TA} {p p2 pos pos2 : Pos} (hc : X.calm = true) (hg : Gl X "sorted") (hm : X.mg "sorted" = none) (hg2 : Gl X "set") (hm2 : X.mg "set" = none) (ha : QA X [l] ta) :
    QE X (.Call (.Name "sorted" p) [.Call (.Name "set" p2) [l] [] pos2] [] pos) (tSetS X.K ta) := ⟨by
  intro pins s σ H Q I h
  have hp := ha.p
  have h1 : plainE l = true := by simpa using hp
  refine wpAny_Call_Name_kw (ld_blt I hg hm boot_srt ?_)
  refine PyProof.Rows.callWith_builtin1 ?_ rfl rfl
  show wpAny _ _ (spliced ((false, eval (.Call (.Name "set" p2) [l] [] pos2) X.env) :: [])) _ _ s
  refine Calls.spliced_cons ?_
  refine wpAny_Call_Name_kw (ld_blt I hg2 hm2 boot_set ?_)
  refine PyProof.Rows.callWith_type1 (thn (ha.h pos2 pins s σ H _ I h) fun us s1 ⟨vs, H1, I1, r1, q1⟩ => ?_) (star_plain h1) rfl
  dsimp only at q1
  split at q1
  · rename_i a
    unfold hSetS at q1
    obtain ⟨ns, hxs, hn, q⟩ := q1
    obtain ⟨u, rfl, ru⟩ := vals1 r1
    cases ru
    obtain ⟨its, rv, pl, hz⟩ := I1.list hxs
    have hi := intsAre_of rv
    have hl : its.length = ns.length := IntsAre.length hi
    refine SW.call_set (I1.ok.hd hc) pl.isList hi (by show _ < 4096; omega) fun h' tk o ms z1 z2 z3 z4 z5 => Calls.spliced_nil ?_
    exact sort_new hc I1 z5 rfl rfl (Nat.le_refl _) z1 z2 (by omega) fun l ms' y1 y2 y3 y4 => q l ms' y1 y2 (fun j => (y3 j).trans (z3 j)) y4
  · exact q1.elim⟩
theorem ke_setS {K : PySem.W.Frag} {l : Expr} {ta : TA} {p p2 pos pos2 : Pos} (hK : X.K = K) (hc : X.calm = true) (hg : Gl X "sorted") (hm : X.mg "sorted" = none) (hg2 : Gl X "set") (hm2 : X.mg "set" = none) (ha : QA X [l] ta) :
    QE X (.Call (.Name "sorted" p) [.Call (.Name "set" p2) [l] [] pos2] [] pos) (tSetS K ta) := hK ▸ qe_setS hc hg hm hg2 hm2 ha
theorem i_setS {K : PySem.W.Frag} {a : Addr} {H : Hp} {Q : VK} {ns : List Int} (hx : SqL K H a (ns.map V.int)) (hn : ns.length ≤ 1000) (q : ∀ (p : Addr) (H' : Hp) (ms : List Int), ms.Nodup → (∀ j, j ∈ ms ↔ j ∈ ns) → ms.Pairwise (· ≤ ·) → H p = none → Same H H' → H' p = some (.lst (ms.map V.int)) → Q (.ref p) H') : hSetS K a H Q := by
  unfold hSetS
  exact ⟨ns, hx, hn, fun l ms hl h1 h2 h3 => q l _ ms h1 h2 h3 hl (same_upd hl) upd_same⟩
end
end L2

set_option linter.all false
set_option Elab.async false
set_option maxRecDepth 100000
set_option maxHeartbeats 4000000
namespace L2
open PySem PySem.Spec PyProof.Rows
/-! ### a <= b <= c < d as a test -/
section
variable {X : Cx} {a b c e : Expr} {ta tb tc te : TE} {pos : Pos}
def mChain3 (r r' r'' : R2) (ta tb tc te : TE) : TT := fun σ H Q => ta σ H fun x H1 => tb σ H1 fun y H2 => r x y H2 fun z H3 => match z with
  | .bl k => (k = true → tc σ H3 fun v H4 => r' y v H4 fun z2 H5 => match z2 with
      | .bl k2 => (k2 = true → te σ H5 fun v2 H6 => r'' v v2 H6 fun z3 H7 => match z3 with
          | .bl k3 => Q k3 H7
          | _ => False) ∧ (k2 = false → Q false H5)
      | _ => False) ∧ (k = false → Q false H3)
  | _ => False
theorem qt_chain3 {op op' op2 : CmpOp} {r r' r'' : R2} (ho : OpR X (compareOp op) r) (ho' : OpR X (compareOp op') r') (ho2 : OpR X (compareOp op2) r'') (ha : QE X a ta) (hb : QE X b tb) (hc : QE X c tc) (hd : QE X e te)
    (hm : lastMarks [op, op', op2] [b, c, e] = false := by with_unfolding_all rfl) : QT X (.Compare a [op, op', op2] [b, c, e] pos) (mChain3 r r' r'' ta tb tc te) := ⟨by
  intro pins s σ H Q I h
  refine isTrue_chain (thn (ha.h pins s σ H _ I h) fun v s1 ⟨x, H1, I1, r1, q1⟩ => test_link (thn (hb.h pins s1 σ H1 _ I1 q1) fun u s2 ⟨y, H2, I2, r2, q2⟩ =>
    thn (ho pins s2 σ H2 x y v u _ I2 r1 r2 q2) fun d s3 ⟨z, H3, I3, r3, q3⟩ => ?_)) hm
  cases z <;> first
    | exact (show False from q3).elim
    | skip
  rename_i k
  cases r3
  refine wpAny_truthy_bool ?_
  cases k with
  | false => exact ite_ff ⟨H3, I3, q3.2 rfl⟩
  | true =>
    refine ite_tt (test_link (thn (hc.h pins s3 σ H3 _ I3 (q3.1 rfl)) fun w' s4 ⟨z', H4, I4, r4, q4⟩ => thn (ho' pins s4 σ H4 y z' u w' _ I4 r2 r4 q4) fun d' s5 ⟨z2, H5, I5, r5, q5⟩ => ?_))
    cases z2 <;> first
      | exact (show False from q5).elim
      | skip
    rename_i k2
    cases r5
    refine wpAny_truthy_bool ?_
    cases k2 with
    | false => exact ite_ff ⟨H5, I5, q5.2 rfl⟩
    | true =>
      refine ite_tt (test_last (thn (hd.h pins s5 σ H5 _ I5 (q5.1 rfl)) fun w2 s6 ⟨z6, H6, I6, r6, q6⟩ => thn (ho2 pins s6 σ H6 z' z6 w' w2 _ I6 r4 r6 q6) fun d2 s7 ⟨z7, H7, I7, r7, q7⟩ => ?_))
      cases z7 <;> first
        | exact (show False from q7).elim
        | (cases r7; exact wpAny_truthy_bool ⟨H7, I7, q7⟩)⟩
end
end L2

set_option linter.all false
set_option Elab.async false
set_option maxRecDepth 100000
set_option maxHeartbeats 4000000
namespace L2
open PySem PySem.Spec PyProof.Rows PySem.SeqAt PySem.MeetsSeq3
open PySem.AutoSeq1 (wpAny_loadPart')
/-! ### >= of two lists of the same length -/
/-- what the first place says at which they differ -/
def fstOffE (e g : Nat → Bool) : Nat → Nat → Bool
  | 0, _ => true
  | k + 1, i => if e i = true then fstOffE e g k (i + 1) else g i
def GeAt (A : Around) (s : Shared) (x y : Value) (r : Bool) : Prop :=
  ∀ (p : Program) (w : World) (E Q : Value → Shared → Prop), Q (.bool r) s → wpAny (model p w) A (richCompare .GtE x y) Q E s
def LObE (h : Heap) (a : Addr) (d : Option Addr) (vs : Array Value) (n : Nat) (sl : Array (Option Value)) : Prop := h.get? a = some { cls := .type "list", dict := d, data := .seq vs n, slots := sl }
theorem ge_loop {a b : Addr} {vs us : Array Value} {n m : Nat} {da db : Option Addr} {sa sb : Array (Option Value)} (hz : vs.size = us.size) (e g : Nat → Bool) : ∀ (k i : Nat), vs.size - i = k →
    Meets (Builtin.«list.__eq__.loop» ⟨[.ref a, .ref b, rawInt i, rawInt 5], []⟩) fun A R s => LObE s.heap a da vs n sa ∧ LObE s.heap b db us m sb ∧
      (∀ j (z1 : j < vs.size) (z2 : j < us.size), EqAt A.in1 s vs[j] us[j] (e j)) ∧ (∀ j (z1 : j < vs.size) (z2 : j < us.size), GeAt A.in1 s vs[j] us[j] (g j)) ∧ R (.ok (.ret (.bool (fstOffE e g k i)))) s
  | 0, i, hk => by
    intro prog w A R s ⟨ha, hb, he, hg, q⟩
    obtain ⟨hp, gl, dr, tk, os⟩ := s
    unfold LObE at ha hb
    wp_walk using wpAny_loadPart' ha, wpAny_loadPart' hb
    have v1 : vs[((i : Nat) : Int).toNat]? = none := by simp; omega
    have v2 : us[((i : Nat) : Int).toNat]? = none := by simp; omega
    rw [v1, v2]
    wp_walk using wpAny_loadPart' ha, wpAny_loadPart' hb
    have z : decide (vs.size ≥ us.size) = true := decide_eq_true (by omega)
    show R (.ok (.ret (.bool (decide (vs.size ≥ us.size))))) _
    rw [z]; exact q
  | k + 1, i, hk => by
    intro prog w A R s ⟨ha, hb, he, hg, q⟩
    obtain ⟨hp, gl, dr, tk, os⟩ := s
    unfold LObE at ha hb
    wp_walk using wpAny_loadPart' ha, wpAny_loadPart' hb
    have i1 : i < vs.size := by omega
    have i2 : i < us.size := by omega
    have v1 : vs[((i : Nat) : Int).toNat]? = some vs[i] := by rw [Int.toNat_natCast]; exact Array.getElem?_eq_getElem i1
    have v2 : us[((i : Nat) : Int).toNat]? = some us[i] := by rw [Int.toNat_natCast]; exact Array.getElem?_eq_getElem i2
    rw [v1, v2]
    have q' : R (.ok (.ret (.bool (if e i = true then fstOffE e g k (i + 1) else g i)))) ⟨hp, gl, dr, tk, os⟩ := q
    refine wpAny_bind (he i i1 i2 prog w _ _ ?_)
    cases ee : e i with
    | true =>
      rw [ee, if_pos rfl] at q'
      wp_walk
      rw [show ((i : Int) + 1) = ((i + 1 : Nat) : Int) by omega]
      refine ⟨plainId_quiet plain_eq_loop _, codeAny_builtin entry_eq_loop ?_⟩
      rw [Around.under_plainId plain_eq_loop _]
      exact ge_loop hz e g k (i + 1) (by omega) prog w A R _ ⟨ha, hb, he, hg, q'⟩
    | false =>
      rw [ee, if_neg (by decide)] at q'
      wp_walk using wpAny_loadPart' ha, wpAny_loadPart' hb
      rw [v1, v2]
      refine wpAny_bind (hg i i1 i2 prog w _ _ ?_)
      wp_walk
      exact q'
theorem list_ge {a b : Addr} {vs us : Array Value} {n m : Nat} {da db : Option Addr} {sa sb : Array (Option Value)} (hz : vs.size = us.size) (e g : Nat → Bool) :
    Meets (Builtin.«list.__ge__» ⟨[.ref a, .ref b], []⟩) fun A R s => LObE s.heap a da vs n sa ∧ LObE s.heap b db us m sb ∧
      (∀ j (z1 : j < vs.size) (z2 : j < us.size), EqAt A.in1 s vs[j] us[j] (e j)) ∧ (∀ j (z1 : j < vs.size) (z2 : j < us.size), GeAt A.in1 s vs[j] us[j] (g j)) ∧ R (.ok (.ret (.bool (fstOffE e g vs.size 0)))) s := by
  intro prog w A R s ⟨ha, hb, he, hg, q⟩
  obtain ⟨hp, gl, dr, tk, os⟩ := s
  unfold LObE at ha hb
  have sub := AutoSeq1.sub_list_list
  wp_walk using wpAny_loadPart' ha, wpAny_loadPart' hb
  refine ⟨plainId_quiet plain_eq_loop _, codeAny_builtin entry_eq_loop ?_⟩
  rw [Around.under_plainId plain_eq_loop _]
  exact ge_loop hz e g vs.size 0 rfl prog w A R _ ⟨ha, hb, he, hg, q⟩
theorem cmp_ge {prog : Program} {w : World} {A : Around} {E Q : Value → Shared → Prop} {s : Shared} {a b : Addr} {vs us : Array Value} (ha : s.heap.IsList a vs) (hb : s.heap.IsList b us) (hz : vs.size = us.size) (hu : A.units < cLine) (e g : Nat → Bool)
    (he : ∀ j (z1 : j < vs.size) (z2 : j < us.size), EqAt A.in1 s vs[j] us[j] (e j)) (hg : ∀ j (z1 : j < vs.size) (z2 : j < us.size), GeAt A.in1 s vs[j] us[j] (g j)) (q : Q (.bool (fstOffE e g vs.size 0)) s) : wpAny (model prog w) A (compareOp .GtE (.ref a) (.ref b)) Q E s := by
  obtain ⟨⟨c1, d1, x1, l1⟩, o1, hc1, n1, hd1⟩ := id ha
  obtain ⟨⟨c2, d2, x2, l2⟩, o2, hc2, n2, hd2⟩ := id hb
  cases hc1; cases hd1; cases hc2; cases hd2
  exact richCompare_meets_room (op := .GtE) ⟨_, o1, rfl⟩ ⟨_, o2, rfl⟩ F.slot_list_ge F.entry_list_ge (F.args_list_ge_2 _ _) (list_ge hz e g) ⟨o1, o2, he, hg, show Value.bool _ ≠ Value.notImplemented ∧ Q _ s from ⟨(fun x => nomatch x), q⟩⟩ hu
/-- the first list greater, number by number -/
def geL : List Int → List Int → Bool
  | a :: as, b :: bs => if a = b then geL as bs else decide (b ≤ a)
  | _, _ => true
theorem geL_off : ∀ (k i : Nat) (ns ms : List Int), ns.length = ms.length → ns.length - i = k → fstOffE (fun j => decide (ns.getD j 0 = ms.getD j 0)) (fun j => decide (ms.getD j 0 ≤ ns.getD j 0)) k i = geL (ns.drop i) (ms.drop i)
  | 0, i, ns, ms, h, hk => by
    rw [List.drop_eq_nil_of_le (by omega)]; rfl
  | k + 1, i, ns, ms, h, hk => by
    have d1 : ns.drop i = ns.getD i 0 :: ns.drop (i + 1) := by
      rw [List.drop_eq_getElem_cons (by omega)]; simp [List.getD, List.getElem?_eq_getElem (show i < ns.length by omega)]
    have d2 : ms.drop i = ms.getD i 0 :: ms.drop (i + 1) := by
      rw [List.drop_eq_getElem_cons (by omega)]; simp [List.getD, List.getElem?_eq_getElem (show i < ms.length by omega)]
    rw [d1, d2]
    show (if decide (ns.getD i 0 = ms.getD i 0) = true then fstOffE _ _ k (i + 1) else decide (ms.getD i 0 ≤ ns.getD i 0)) = if ns.getD i 0 = ms.getD i 0 then geL _ _ else decide (ms.getD i 0 ≤ ns.getD i 0)
    by_cases z : ns.getD i 0 = ms.getD i 0
    · rw [if_pos (decide_eq_true z), if_pos z, geL_off k (i + 1) ns ms h (by omega)]
    · rw [if_neg (by simp only [decide_eq_true_eq]; exact z), if_neg z]
section
variable {X : Cx}
def rGeI (K : PySem.W.Frag) : R2 := fun x y H Q => ∃ (p q : Addr) (ns ms : List Int), x = .ref p ∧ y = .ref q ∧ SqL K H p (ns.map V.int) ∧ SqL K H q (ms.map V.int) ∧ ns.length = ms.length ∧ Q (.bl (geL ns ms)) H
theorem op_geI {k : Nat} (hr : Room k X.A) : OpR X (compareOp .GtE) (rGeI X.K) := by
  intro pins s σ H x y v u Q I rx ry h
  obtain ⟨p, q, ns, ms, rfl, rfl, h1, h2, hl, qq⟩ := h
  cases rx; cases ry
  obtain ⟨its, r1, p1, _⟩ := I.list h1
  obtain ⟨its2, r2, p2, _⟩ := I.list h2
  have i1 := intsAre_of r1
  have i2 := intsAre_of r2
  have l1 := r1.length
  have l2 := r2.length
  rw [List.length_map] at l1 l2
  refine cmp_ge p1.isList p2.isList (by simp only [List.size_toArray]; omega) hr.units0 (fun j => decide (ns.getD j 0 = ms.getD j 0)) (fun j => decide (ms.getD j 0 ≤ ns.getD j 0)) (fun j a1 a2 => ?_) (fun j a1 a2 => ?_) ?_
  · obtain ⟨t1, e1⟩ := ints_at i1 j a1
    obtain ⟨t2, e2⟩ := ints_at i2 j a2
    rw [e1, e2, ← Bool.beq_eq_decide_eq]
    exact SeqAt.EqAt.int_int (A := X.A.in1) (s := s) (ns.getD j 0) t1 (ms.getD j 0) t2
  · obtain ⟨t1, e1⟩ := ints_at i1 j a1
    obtain ⟨t2, e2⟩ := ints_at i2 j a2
    rw [e1, e2]
    exact fun p w E Q q => ge_int q
  · rw [show its.toArray.size = ns.length by simp only [List.size_toArray]; omega, geL_off ns.length 0 ns ms hl (by omega), List.drop_zero, List.drop_zero]
    exact ⟨.bl _, H, I, rfl, qq⟩
@[irreducible] def hGeR (K : PySem.W.Frag) (a b : Addr) (H : Hp) (Q : Bool → Hp → Prop) : Prop := ∃ ns ms : List Int, SqL K H a (ns.map V.int) ∧ SqL K H b (ms.map V.int) ∧ ns.length = ms.length ∧ Q (geL ns ms) H
def vGeL (K : PySem.W.Frag) : R2 := fun x y H Q => match x, y with
  | .ref a, .ref b => hGeR K a b H fun r H' => Q (.bl r) H'
  | _, _ => False
theorem kGeL {K : PySem.W.Frag} {k : Nat} (hK : X.K = K) (hr : Room k X.A) : OpR X (compareOp .GtE) (vGeL K) := by
  subst hK
  intro pins s σ H x y v u Q I rx ry h
  unfold vGeL at h
  split at h
  · unfold hGeR at h
    obtain ⟨ns, ms, h1, h2, hl, q⟩ := h
    exact op_geI hr pins s σ H _ _ v u Q I rx ry ⟨_, _, ns, ms, rfl, rfl, h1, h2, hl, q⟩
  · exact h.elim
theorem i_geI {K : PySem.W.Frag} {a b : Addr} {H : Hp} {Q : Bool → Hp → Prop} {ns ms : List Int} (h1 : SqL K H a (ns.map V.int)) (h2 : SqL K H b (ms.map V.int)) (hl : ns.length = ms.length) (q : Q (geL ns ms) H) : hGeR K a b H Q := by unfold hGeR; exact ⟨ns, ms, h1, h2, hl, q⟩
end
end L2

namespace M3
/-- the pieces of ns from place b on, cut at cs -/
def pcs (ns : List Int) : Nat → List Nat → List (List Int)
  | b, [] => [ns.drop b]
  | b, c :: cs => (ns.drop b).take (c - b) :: pcs ns c cs
theorem pcs_len (ns : List Int) : ∀ (cs : List Nat) (b : Nat), (pcs ns b cs).length = cs.length + 1
  | [], _ => rfl
  | c :: cs, b => by simp only [pcs, List.length_cons, pcs_len ns cs c]
theorem pcs_at (ns : List Int) : ∀ (cs : List Nat) (b i x y : Nat), (b :: cs)[i]? = some x → (cs ++ [ns.length])[i]? = some y → (pcs ns b cs)[i]? = some ((ns.drop x).take (y - x))
  | [], b, 0, x, y, h1, h2 => by
    simp only [List.getElem?_cons_zero, List.nil_append, Option.some.injEq] at h1 h2
    subst h1; subst h2
    simp only [pcs, List.getElem?_cons_zero]
    rw [List.take_of_length_le (by rw [List.length_drop]; exact Nat.le_refl _)]
  | [], b, i + 1, x, y, h1, h2 => by simp at h1
  | c :: cs, b, 0, x, y, h1, h2 => by
    simp only [List.getElem?_cons_zero, List.cons_append, Option.some.injEq] at h1 h2
    subst h1; subst h2
    simp only [pcs, List.getElem?_cons_zero]
  | c :: cs, b, i + 1, x, y, h1, h2 => by
    rw [List.getElem?_cons_succ] at h1
    rw [List.cons_append, List.getElem?_cons_succ] at h2
    simp only [pcs, List.getElem?_cons_succ]
    exact pcs_at ns cs c i x y h1 h2
/-- a cut of a row of n numbers -/
structure CutN (cs : List Nat) (n : Nat) : Prop where
  up : cs.Pairwise (· < ·)
  lo : ∀ c ∈ cs, 1 ≤ c
  hi : ∀ c ∈ cs, c < n
theorem cut_len {cs : List Nat} {n : Nat} (h : CutN cs n) : cs.length ≤ n := by
  have h1 : ∀ (cs : List Nat) (b : Nat), cs.Pairwise (· < ·) → (∀ c ∈ cs, b ≤ c ∧ c < n) → b ≤ n → cs.length + b ≤ n := by
    intro cs
    induction cs with
    | nil => intro b _ _ h; simpa using h
    | cons c cs ih =>
      intro b hp hb hbn
      obtain ⟨p1, p2⟩ := List.pairwise_cons.mp hp
      have hc := hb c List.mem_cons_self
      have := ih (c + 1) p2 (fun d hd => ⟨p1 d hd, (hb d (List.mem_cons_of_mem _ hd)).2⟩) (by omega)
      rw [List.length_cons]; omega
  have := h1 cs 0 h.up (fun c hc => ⟨Nat.zero_le _, h.hi c hc⟩) (Nat.zero_le _)
  omega
end M3
namespace M3
end M3

namespace M5
/-! the mathematics of long cuts -/
/-- the cut of a row by a bound, place by place: tot is what the piece at hand has -/
def lcut (b : Int) : Nat → Int → List Int → List Int
  | _, _, [] => []
  | i, tot, n :: r => if tot + n > b then (i : Int) :: lcut b (i + 1) n r else lcut b (i + 1) (tot + n) r
/-- the total of the last piece -/
def ltot (b : Int) : Int → List Int → Int
  | tot, [] => tot
  | tot, n :: r => if tot + n > b then ltot b n r else ltot b (tot + n) r
theorem lcut_app (b : Int) : ∀ (xs ys : List Int) (i : Nat) (tot : Int), lcut b i tot (xs ++ ys) = lcut b i tot xs ++ lcut b (i + xs.length) (ltot b tot xs) ys
  | [], ys, i, tot => by simp [lcut, ltot]
  | x :: xs, ys, i, tot => by
    by_cases h : tot + x > b
    · simp only [List.cons_append, lcut, ltot, h, if_true, lcut_app b xs ys (i + 1) x, List.length_cons]
      rw [show i + 1 + xs.length = i + (xs.length + 1) by omega]
    · simp only [List.cons_append, lcut, ltot, h, if_false, lcut_app b xs ys (i + 1) (tot + x), List.length_cons]
      rw [show i + 1 + xs.length = i + (xs.length + 1) by omega]
theorem ltot_app (b : Int) : ∀ (xs ys : List Int) (tot : Int), ltot b tot (xs ++ ys) = ltot b (ltot b tot xs) ys
  | [], ys, tot => rfl
  | x :: xs, ys, tot => by
    by_cases h : tot + x > b
    · simp only [List.cons_append, ltot, h, if_true]; exact ltot_app b xs ys x
    · simp only [List.cons_append, ltot, h, if_false]; exact ltot_app b xs ys (tot + x)
theorem sum_nn : ∀ (ys : List Int), (∀ y ∈ ys, 0 ≤ y) → 0 ≤ ys.sum
  | [], _ => by simp
  | y :: ys, h => by
    rw [List.sum_cons]
    have := sum_nn ys fun z hz => h z (List.mem_cons_of_mem _ hz)
    have := h y List.mem_cons_self
    omega
theorem lcut_nil {b : Int} : ∀ (ys : List Int) (i : Nat) (tot : Int), (∀ y ∈ ys, 0 ≤ y) → tot + ys.sum ≤ b → lcut b i tot ys = []
  | [], _, _, _, _ => rfl
  | y :: ys, i, tot, h, hs => by
    rw [List.sum_cons] at hs
    have hp : 0 ≤ ys.sum := sum_nn ys fun z hz => h z (List.mem_cons_of_mem _ hz)
    have : ¬ tot + y > b := by omega
    simp only [lcut, this, if_false]
    exact lcut_nil ys (i + 1) (tot + y) (fun z hz => h z (List.mem_cons_of_mem _ hz)) (by omega)
theorem mem_le_sum : ∀ {ys : List Int}, (∀ y ∈ ys, 0 ≤ y) → ∀ y ∈ ys, y ≤ ys.sum
  | x :: ys, h, y, hy => by
    rw [List.sum_cons]
    have h0 := sum_nn ys fun z hz => h z (List.mem_cons_of_mem _ hz)
    have hx := h x List.mem_cons_self
    rcases List.mem_cons.mp hy with rfl | hy
    · omega
    · have := mem_le_sum (fun z hz => h z (List.mem_cons_of_mem _ hz)) y hy
      omega
theorem lcut_one {b : Int} : ∀ (ys : List Int) (i : Nat) (tot : Int), (∀ y ∈ ys, 0 ≤ y) → ys.sum ≤ b → (lcut b i tot ys).length ≤ 1
  | [], _, _, _, _ => Nat.zero_le _
  | y :: ys, i, tot, h, hs => by
    rw [List.sum_cons] at hs
    have hy := h y List.mem_cons_self
    have ht : ∀ z ∈ ys, 0 ≤ z := fun z hz => h z (List.mem_cons_of_mem _ hz)
    by_cases hc : tot + y > b
    · simp only [lcut, hc, if_true, lcut_nil ys (i + 1) y ht hs, List.length_cons, List.length_nil]; omega
    · simp only [lcut, hc, if_false]
      exact lcut_one ys (i + 1) (tot + y) ht (by omega)
/-- the pieces of the long cut -/
def gp (b : Int) (ns : List Int) : Nat := if ns = [] then 0 else (lcut b 0 0 ns).length + 1
theorem gp_add {b : Int} {xs ys : List Int} (h : ∀ y ∈ ys, 0 ≤ y) (hs : ys.sum ≤ b) : gp b (xs ++ ys) ≤ gp b xs + 1 := by
  unfold gp
  by_cases hx : xs = []
  · subst hx
    rw [List.nil_append, lcut_nil ys 0 0 h (by omega)]
    split <;> simp
  · rw [if_neg hx, if_neg (by simp [hx]), lcut_app, List.length_append]
    have := lcut_one ys (0 + xs.length) (ltot b 0 xs) h hs
    omega
theorem gp_last {b : Int} : ∀ (m : Nat) (xs : List Int), xs.length = m → xs ≠ [] → (∀ x ∈ xs, 0 ≤ x) → (∀ x ∈ xs, x ≤ b) → ∃ pre seg, xs = pre ++ seg ∧ seg ≠ [] ∧ seg.sum = ltot b 0 xs ∧ ltot b 0 xs ≤ b ∧ gp b xs = gp b pre + 1
  | 0, xs, hl, hne, _, _ => absurd (List.length_eq_zero_iff.mp hl) hne
  | m + 1, xs, hl, hne, h0, h1 => by
    obtain ⟨ys, n, rfl⟩ : ∃ ys n, xs = ys ++ [n] := ⟨xs.dropLast, xs.getLast hne, (List.dropLast_concat_getLast hne).symm⟩
    have hn : n ≤ b := h1 n (by simp)
    by_cases hy : ys = []
    · subst hy
      have e : ¬ (0 : Int) + n > b := by omega
      refine ⟨[], [n], rfl, by simp, ?_, ?_, ?_⟩
      · simp [ltot, e]
      · simp only [List.nil_append, ltot, e, if_false]; omega
      · simp [gp, lcut, hn]
    · rw [ltot_app]
      by_cases hc : ltot b 0 ys + n > b
      · refine ⟨ys, [n], rfl, by simp, ?_, ?_, ?_⟩
        · simp [ltot, hc]
        · simp only [ltot, hc, if_true]; exact hn
        · unfold gp
          rw [if_neg hy, if_neg (by simp), lcut_app]
          simp [lcut, hc]
      · obtain ⟨pre, seg, e1, e2, e3, e4, e5⟩ := gp_last m ys (by simp at hl; exact hl) hy (fun x hx => h0 x (by simp [hx])) (fun x hx => h1 x (by simp [hx]))
        refine ⟨pre, seg ++ [n], by rw [e1]; simp, by simp, ?_, ?_, ?_⟩
        · simp only [List.sum_append, List.sum_cons, List.sum_nil, ltot, hc, if_false]; omega
        · simp only [ltot, hc, if_false]; omega
        · rw [← e5]
          unfold gp
          rw [if_neg hy, if_neg (by simp), lcut_app]
          simp [lcut, hc]
end M5
namespace M5
theorem lcut_len (b : Int) : ∀ (xs : List Int) (i : Nat) (tot : Int), (lcut b i tot xs).length ≤ xs.length
  | [], _, _ => Nat.le_refl _
  | x :: xs, i, tot => by
    simp only [lcut]
    split
    · have := lcut_len b xs (i + 1) x; simp only [List.length_cons]; omega
    · have := lcut_len b xs (i + 1) (tot + x); simp only [List.length_cons]; omega
end M5
namespace M5
/-- the fewest pieces of the first i numbers -/
def fv (b : Int) (ns : List Int) (i : Nat) : Option Int := if (ns.take i).all (fun n => decide (n ≤ b)) = true then some ((gp b (ns.take i) : Nat) : Int) else none
def seg (ns : List Int) (k e : Nat) : Int := ((ns.take e).drop k).sum
theorem seg_self (ns : List Int) (e : Nat) : seg ns e e = 0 := by
  unfold seg; rw [List.drop_eq_nil_of_le (by rw [List.length_take]; omega)]; rfl
theorem seg_step {ns : List Int} {k e : Nat} (hk : k < e) (he : e ≤ ns.length) : seg ns k e = ns.getD k 0 + seg ns (k + 1) e := by
  unfold seg
  have h : k < (ns.take e).length := by rw [List.length_take]; omega
  rw [List.drop_eq_getElem_cons h, List.sum_cons, List.getElem_take, List.getD_eq_getElem?_getD, List.getElem?_eq_getElem (by omega)]; rfl
structure Best (b : Int) (ns : List Int) (e lo : Nat) (best : Option Int) : Prop where
  ub : ∀ k, lo ≤ k → k < e → seg ns k e ≤ b → ∀ v, fv b ns k = some v → ∃ w, best = some w ∧ w ≤ v + 1
  ex : ∀ w, best = some w → ∃ k, lo ≤ k ∧ k < e ∧ seg ns k e ≤ b ∧ fv b ns k = some (w - 1)
end M5

namespace M5
theorem take_split {ns : List Int} {i e : Nat} (h : i ≤ e) : ns.take e = ns.take i ++ (ns.take e).drop i := by
  conv => lhs; rw [← List.take_append_drop i (ns.take e)]
  rw [List.take_take, Nat.min_eq_left h]
end M5

namespace M10
open M5
/-- where pieces end that are as short as the bound lets; tot is what the piece at hand has -/
def sends (b : Int) : Nat → Int → List Int → List Int
  | _, _, [] => []
  | i, tot, n :: r => if tot + n ≥ b then ((i + 1 : Nat) : Int) :: sends b (i + 1) 0 r else sends b (i + 1) (tot + n) r
/-- how many -/
def cnt (b : Int) (tot : Int) (xs : List Int) : Nat := (sends b 0 tot xs).length
/-- the count of the numbers from k on -/
def G (b : Int) (ns : List Int) (k : Nat) : Nat := cnt b 0 (ns.drop k)
theorem seg_take {ns : List Int} {k j : Nat} : ((ns.drop k).take j).sum = seg ns k (k + j) := by
  unfold seg; rw [List.drop_take]; congr 2; omega
/-- the most pieces from k on -/
def M (b : Int) (ns : List Int) (k : Nat) : Option Int := if k = ns.length then some 0 else if G b ns k = 0 then none else some ((G b ns k : Nat) : Int)
structure Top (b : Int) (ns : List Int) (k hi : Nat) (best : Option Int) : Prop where
  ub : ∀ e, k < e → e ≤ hi → seg ns k e ≥ b → ∀ v, M b ns e = some v → ∃ w, best = some w ∧ v + 1 ≤ w
  ex : ∀ w, best = some w → ∃ e, k < e ∧ e ≤ hi ∧ seg ns k e ≥ b ∧ M b ns e = some (w - 1)
end M10

namespace M11
open M5 M10
def pick (w : Nat) (x y : Int) : Int := if w = 0 then min x y else max x y
def both (w : Nat) (x y : Int) : Int := if w = 0 then max x y else min x y
def Le (w : Nat) (x y : Int) : Prop := if w = 0 then x ≤ y else y ≤ x
theorem Le.refl (w : Nat) (x : Int) : Le w x x := by unfold Le; split <;> omega
theorem Le.trans {w : Nat} {x y z : Int} (a : Le w x y) (b : Le w y z) : Le w x z := by unfold Le at *; split at a <;> simp_all <;> omega
theorem pick_or (w : Nat) (x y : Int) : pick w x y = x ∨ pick w x y = y := by unfold pick; split <;> omega
theorem pick_l (w : Nat) (x y : Int) : Le w (pick w x y) x := by unfold pick Le; split <;> omega
theorem pick_r (w : Nat) (x y : Int) : Le w (pick w x y) y := by unfold pick Le; split <;> omega
structure IsBest (w : Nat) (l : List Int) (v : Int) : Prop where
  mem : v ∈ l
  le : ∀ a ∈ l, Le w v a
def lbest (w : Nat) : List Int → Option Int
  | [] => none
  | a :: l => some (l.foldl (pick w) a)
theorem fold_best (w : Nat) : ∀ (l : List Int) (a : Int), IsBest w (a :: l) (l.foldl (pick w) a)
  | [], a => ⟨by simp, fun x hx => by simp at hx; subst hx; exact Le.refl w _⟩
  | b :: l, a => by
    have ih := fold_best w l (pick w a b)
    rw [List.foldl_cons]
    refine ⟨?_, fun x hx => ?_⟩
    · rcases List.mem_cons.mp ih.mem with h | h
      · rw [h]; rcases pick_or w a b with e | e <;> rw [e] <;> simp
      · exact List.mem_cons_of_mem _ (List.mem_cons_of_mem _ h)
    · have h0 := ih.le _ List.mem_cons_self
      rcases List.mem_cons.mp hx with rfl | hx
      · exact h0.trans (pick_l w _ _)
      · rcases List.mem_cons.mp hx with rfl | hx
        · exact h0.trans (pick_r w _ _)
        · exact ih.le x (List.mem_cons_of_mem _ hx)
theorem lbest_is {w : Nat} {l : List Int} {v : Int} (h : lbest w l = some v) : IsBest w l v := by
  cases l with
  | nil => cases h
  | cons a l => have := fold_best w l a; simp only [lbest, Option.some.injEq] at h; rw [← h]; exact this
/-- the best of all cuts of the numbers from i on into k + 1 pieces -/
def T (w : Nat) (ns : List Int) : Nat → Nat → Option Int
  | 0, i => if i < ns.length then some (seg ns i ns.length) else none
  | k + 1, i => lbest w ((List.range (ns.length - (k + 1) - i)).map fun j => both w (seg ns i (i + 1 + j)) ((T w ns k (i + 1 + j)).getD 0))
theorem T_some {w : Nat} {ns : List Int} : ∀ {k i : Nat}, i + k < ns.length → ∃ v, T w ns k i = some v
  | 0, i, h => ⟨_, by simp only [T]; rw [if_pos (by omega)]⟩
  | k + 1, i, h => by
    simp only [T]
    obtain ⟨n, hn⟩ : ∃ n, ns.length - (k + 1) - i = n + 1 := ⟨ns.length - (k + 1) - i - 1, by omega⟩
    rw [hn, List.range_succ_eq_map, List.map_cons]
    exact ⟨_, rfl⟩
theorem T_mem {w : Nat} {ns : List Int} {k i : Nat} {t : Int} (h : T w ns (k + 1) i = some t) : (∃ e v, i < e ∧ e + k < ns.length ∧ T w ns k e = some v ∧ t = both w (seg ns i e) v) ∧ ∀ e v, i < e → e + k < ns.length → T w ns k e = some v → Le w t (both w (seg ns i e) v) := by
  have hb := lbest_is h
  refine ⟨?_, fun e v h1 h2 hv => ?_⟩
  · obtain ⟨j, hj, e⟩ := List.mem_map.mp hb.mem
    have hj' := List.mem_range.mp hj
    obtain ⟨v, hv⟩ := T_some (w := w) (ns := ns) (k := k) (i := i + 1 + j) (by omega)
    refine ⟨i + 1 + j, v, by omega, by omega, hv, ?_⟩
    rw [← e, hv]; rfl
  · refine hb.le _ (List.mem_map.mpr ⟨e - (i + 1), List.mem_range.mpr (by omega), ?_⟩)
    rw [show i + 1 + (e - (i + 1)) = e by omega, hv]; rfl
theorem seg_split {ns : List Int} {i e n : Nat} (h1 : i ≤ e) (h2 : e ≤ n) (h3 : n ≤ ns.length) : seg ns i n = seg ns i e + seg ns e n := by
  unfold seg
  have : (ns.take n).drop i = (ns.take e).drop i ++ (ns.take n).drop e := by
    have h : ns.take n = ns.take e ++ (ns.take n).drop e := take_split h2
    conv => lhs; rw [h]
    rw [List.drop_append_of_le_length (by rw [List.length_take]; omega)]
  rw [this, List.sum_append]
theorem seg_nn {ns : List Int} (hnn : ∀ n ∈ ns, 0 ≤ n) (i e : Nat) : 0 ≤ seg ns i e := sum_nn _ fun y hy => hnn y (List.mem_of_mem_take (List.mem_of_mem_drop hy))
end M11

namespace M7
open M5 M10 M11
theorem gp_le {b : Int} : ∀ (n : Nat) (ps : List (List Int)), ps.length = n → (∀ p ∈ ps, ∀ x ∈ p, 0 ≤ x) → (∀ p ∈ ps, p.sum ≤ b) → gp b ps.flatten ≤ ps.length
  | 0, ps, h, _, _ => by
    have : ps = [] := List.length_eq_zero_iff.mp h
    subst this; simp [gp]
  | n + 1, ps, h, h0, h1 => by
    have hne : ps ≠ [] := fun z => by rw [z] at h; cases h
    have e : ps = ps.dropLast ++ [ps.getLast hne] := (List.dropLast_concat_getLast hne).symm
    have hl : ps.dropLast.length = n := by rw [List.length_dropLast, h]; rfl
    have hm : ∀ p ∈ ps.dropLast, p ∈ ps := fun p hp => by rw [e]; exact List.mem_append_left _ hp
    have ih := gp_le n ps.dropLast hl (fun p hp => h0 p (hm p hp)) fun p hp => h1 p (hm p hp)
    have hlast := List.getLast_mem hne
    have := gp_add (b := b) (xs := ps.dropLast.flatten) (h0 _ hlast) (h1 _ hlast)
    rw [e, List.flatten_append, List.flatten_singleton, List.length_append]
    simp only [List.length_cons, List.length_nil]
    omega
theorem decomp {b : Int} : ∀ (n : Nat) (xs : List Int), xs.length = n → (∀ x ∈ xs, 0 ≤ x) → (∀ x ∈ xs, x ≤ b) → ∃ ps : List (List Int), ps.flatten = xs ∧ (∀ p ∈ ps, p ≠ [] ∧ p.sum ≤ b) ∧ ps.length = gp b xs := by
  intro n
  induction n using Nat.strongRecOn with
  | ind n ih =>
    intro xs hl h0 h1
    by_cases hx : xs = []
    · subst hx; exact ⟨[], rfl, by simp, by simp [gp]⟩
    · obtain ⟨pre, sg, e1, e2, e3, e4, e5⟩ := gp_last xs.length xs rfl hx h0 h1
      have hs : 0 < sg.length := List.length_pos_iff.mpr e2
      have hpl : pre.length < n := by rw [← hl, e1, List.length_append]; omega
      obtain ⟨ps, p1, p2, p3⟩ := ih pre.length hpl pre rfl (fun x hx => h0 x (by rw [e1]; exact List.mem_append_left _ hx)) fun x hx => h1 x (by rw [e1]; exact List.mem_append_left _ hx)
      refine ⟨ps ++ [sg], by rw [List.flatten_append, p1, List.flatten_singleton, ← e1], fun p hp => ?_, by rw [List.length_append, p3, e5]; rfl⟩
      rcases List.mem_append.mp hp with hp | hp
      · exact p2 p hp
      · have : p = sg := by simpa using hp
        subst this; exact ⟨e2, by omega⟩
theorem gp_len {b : Int} {xs : List Int} (h : ∀ x ∈ xs, x ≤ b) : gp b xs ≤ xs.length := by
  unfold gp
  split
  · omega
  · rename_i hne
    cases xs with
    | nil => exact absurd rfl hne
    | cons x xs =>
      have hx := h x List.mem_cons_self
      have c : ¬ (0 + x > b) := by omega
      have := lcut_len b xs (0 + 1) (0 + x)
      simp only [lcut, c, if_false, List.length_cons]
      omega
theorem nil_sum {b : Int} : ∀ (xs : List Int) (i : Nat) (tot : Int), tot ≤ b → lcut b i tot xs = [] → tot + xs.sum ≤ b
  | [], _, tot, h, _ => by simpa using h
  | x :: xs, i, tot, h, hl => by
    simp only [lcut] at hl
    split at hl
    · cases hl
    · rename_i c
      have := nil_sum xs (i + 1) (tot + x) (by omega) hl
      rw [List.sum_cons]; omega
theorem drop_seg {ns : List Int} {i e : Nat} (h : i ≤ e) : ns.drop i = (ns.take e).drop i ++ ns.drop e := by
  by_cases he : e ≤ ns.length
  · conv => lhs; rw [← List.take_append_drop e ns]
    rw [List.drop_append_of_le_length (by rw [List.length_take]; omega)]
  · rw [List.take_of_length_le (by omega), List.drop_eq_nil_of_le (as := ns) (i := e) (by omega), List.append_nil]
theorem seg_all {ns : List Int} {i : Nat} : seg ns i ns.length = (ns.drop i).sum := by unfold seg; rw [List.take_length]
/-- so many pieces go within a bound just where it is no less than the best one -/
theorem T_iff0 {ns : List Int} (hnn : ∀ n ∈ ns, 0 ≤ n) (b : Int) : ∀ {k i : Nat} {t : Int}, i + k < ns.length → T 0 ns k i = some t → (t ≤ b ↔ (∀ x ∈ ns.drop i, x ≤ b) ∧ gp b (ns.drop i) ≤ k + 1)
  | 0, i, t, h, ht => by
    simp only [T] at ht
    rw [if_pos (by omega)] at ht
    have ht := Option.some.inj ht
    rw [seg_all] at ht
    have hd : ∀ x ∈ ns.drop i, 0 ≤ x := fun x hx => hnn x (List.mem_of_mem_drop hx)
    have hne : ns.drop i ≠ [] := fun z => by have := congrArg List.length z; rw [List.length_drop, List.length_nil] at this; omega
    constructor
    · intro hb
      refine ⟨fun x hx => Int.le_trans (mem_le_sum hd x hx) (by omega), ?_⟩
      unfold gp
      rw [if_neg hne, lcut_nil _ 0 0 hd (by omega)]; simp
    · rintro ⟨ha, hg⟩
      unfold gp at hg
      rw [if_neg hne] at hg
      have hl : lcut b 0 0 (ns.drop i) = [] := List.length_eq_zero_iff.mp (by omega)
      have h0 : (0 : Int) ≤ b := by
        cases hx : ns.drop i with
        | nil => exact absurd hx hne
        | cons x xs => have h1 := ha x (by rw [hx]; simp); have h2 := hd x (by rw [hx]; simp); omega
      have := nil_sum _ 0 0 h0 hl
      omega
  | k + 1, i, t, h, ht => by
    obtain ⟨⟨e, v, he1, he2, hv, htv⟩, hle⟩ := T_mem ht
    have hd : ∀ x ∈ ns.drop i, 0 ≤ x := fun x hx => hnn x (List.mem_of_mem_drop hx)
    constructor
    · intro hb
      have hs : seg ns i e ≤ b ∧ v ≤ b := by
        rw [htv] at hb; unfold both at hb; rw [if_pos rfl] at hb; omega
      obtain ⟨ha, hg⟩ := (T_iff0 hnn b he2 hv).mp hs.2
      have hsplit := drop_seg (ns := ns) (Nat.le_of_lt he1)
      have hsn : ∀ x ∈ (ns.take e).drop i, 0 ≤ x := fun x hx => hnn x (List.mem_of_mem_take (List.mem_of_mem_drop hx))
      have hall : ∀ x ∈ ns.drop i, x ≤ b := fun x hx => by
        rw [hsplit] at hx
        rcases List.mem_append.mp hx with hx | hx
        · exact Int.le_trans (mem_le_sum hsn x hx) hs.1
        · exact ha x hx
      refine ⟨hall, ?_⟩
      obtain ⟨ps, p1, p2, p3⟩ := decomp (b := b) _ (ns.drop e) rfl (fun x hx => hnn x (List.mem_of_mem_drop hx)) ha
      have := gp_le (b := b) _ ((ns.take e).drop i :: ps) rfl (fun p hp x hx => by
        rcases List.mem_cons.mp hp with rfl | hp
        · exact hsn x hx
        · refine hnn x (List.mem_of_mem_drop (i := e) ?_)
          rw [← p1]; exact List.mem_flatten.mpr ⟨p, hp, hx⟩) fun p hp => by
        rcases List.mem_cons.mp hp with rfl | hp
        · exact hs.1
        · exact (p2 p hp).2
      rw [List.flatten_cons, p1, ← hsplit, List.length_cons, p3] at this
      omega
    · rintro ⟨ha, hg⟩
      obtain ⟨ps, p1, p2, p3⟩ := decomp (b := b) _ (ns.drop i) rfl hd ha
      cases ps with
      | nil =>
        have := congrArg List.length p1
        rw [List.flatten_nil, List.length_nil, List.length_drop] at this; omega
      | cons p ps =>
        rw [List.flatten_cons] at p1
        rw [List.length_cons] at p3
        obtain ⟨hpne, hpb⟩ := p2 p List.mem_cons_self
        have hp1 : 0 < p.length := List.length_pos_iff.mpr hpne
        have hlen : p.length + ps.flatten.length = ns.length - i := by
          have := congrArg List.length p1
          rw [List.length_append, List.length_drop] at this; exact this
        -- where to cut
        let e0 := min (i + p.length) (ns.length - k - 1)
        have he0 : e0 ≤ i + p.length ∧ e0 ≤ ns.length - k - 1 ∧ i < e0 := by simp only [e0]; omega
        have hseg0 : seg ns i (i + p.length) = p.sum := by
          unfold seg
          rw [List.drop_take, show i + p.length - i = p.length by omega, ← p1, List.take_left' rfl]
        have hsegle : seg ns i e0 ≤ b := by
          have h1 := seg_split (ns := ns) (i := i) (e := e0) (n := i + p.length) (by omega) he0.1 (by omega)
          have h2 := seg_nn hnn e0 (i + p.length)
          omega
        obtain ⟨v0, hv0⟩ := T_some (w := 0) (ns := ns) (k := k) (i := e0) (by omega)
        have hall0 : ∀ x ∈ ns.drop e0, x ≤ b := fun x hx => ha x (by rw [drop_seg (ns := ns) (Nat.le_of_lt he0.2.2)]; exact List.mem_append_right _ hx)
        have hg0 : gp b (ns.drop e0) ≤ k + 1 := by
          by_cases c : i + p.length ≤ ns.length - k - 1
          · have ee : e0 = i + p.length := by simp only [e0]; omega
            have ed : ns.drop e0 = ps.flatten := by
              rw [ee, ← List.drop_drop, ← p1, List.drop_left' rfl]
            rw [ed]
            have := gp_le (b := b) _ ps rfl (fun q hq x hx => hd x (by rw [← p1]; exact List.mem_append_right _ (List.mem_flatten.mpr ⟨q, hq, hx⟩))) fun q hq => (p2 q (List.mem_cons_of_mem _ hq)).2
            omega
          · have ee : e0 = ns.length - k - 1 := by simp only [e0]; omega
            have hgl := gp_len hall0
            rw [List.length_drop] at hgl
            omega
        have h6 := (T_iff0 hnn b (by omega) hv0).mpr ⟨hall0, hg0⟩
        have h7 := hle e0 v0 he0.2.2 (by omega) hv0
        unfold Le both at h7
        rw [if_pos rfl, if_pos rfl] at h7
        omega
/-- the places found from behind: the last piece but l begins at x -/
structure Back (ns : List Int) (t : Int) (m l x : Nat) : Prop where
  le : x + l ≤ ns.length
  ge : 1 ≤ l → m - l ≤ x
  at0 : l = 0 → x = ns.length
  fit : ∀ j, l = j + 1 → ∃ v, T 0 ns j x = some v ∧ v ≤ t
  no : ∀ j, l = j + 1 → ∀ i, m - l ≤ i → i < x → ∀ v, T 0 ns j i = some v → t < v
theorem Back.start (ns : List Int) (t : Int) (m : Nat) : Back ns t m 0 ns.length := ⟨by omega, fun h => by omega, fun _ => rfl, fun j h => by omega, fun j h => by omega⟩
theorem seg_mono {ns : List Int} (hnn : ∀ n ∈ ns, 0 ≤ n) {i j e : Nat} (h1 : i ≤ j) (h2 : j ≤ e) (h3 : e ≤ ns.length) : seg ns j e ≤ seg ns i e := by
  have := seg_split (ns := ns) h1 h2 h3
  have := seg_nn hnn i j
  omega
theorem seg_mono' {ns : List Int} (hnn : ∀ n ∈ ns, 0 ≤ n) {i e f : Nat} (h1 : i ≤ e) (h2 : e ≤ f) (h3 : f ≤ ns.length) : seg ns i e ≤ seg ns i f := by
  have := seg_split (ns := ns) h1 h2 h3
  have := seg_nn hnn e f
  omega
theorem Back.step {ns : List Int} (hnn : ∀ n ∈ ns, 0 ≤ n) {t : Int} {m l x y : Nat} (h : Back ns t m l x) (hl : l + 1 < m) (hm : m ≤ ns.length) (h1 : m - l - 1 ≤ y) (h2 : y < x) (h3 : seg ns y x ≤ t) (h4 : y = m - l - 1 ∨ (1 ≤ y ∧ t < seg ns (y - 1) x)) : Back ns t m (l + 1) y := by
  have hx := h.le
  refine ⟨by omega, fun _ => by omega, fun z => by omega, fun j hj => ?_, fun j hj i hi1 hi2 v hv => ?_⟩
  · have : j = l := by omega
    subst this
    cases j with
    | zero =>
      have := h.at0 rfl
      subst this
      exact ⟨seg ns y ns.length, by simp only [T]; rw [if_pos h2], h3⟩
    | succ j =>
      obtain ⟨v, hv, hvt⟩ := h.fit j rfl
      obtain ⟨u, hu⟩ := T_some (w := 0) (ns := ns) (k := j + 1) (i := y) (by omega)
      have := (T_mem hu).2 x v h2 (by omega) hv
      unfold Le both at this
      rw [if_pos rfl, if_pos rfl] at this
      exact ⟨u, hu, by omega⟩
  · have : j = l := by omega
    subst this
    have hy : 1 ≤ y ∧ t < seg ns (y - 1) x := by
      rcases h4 with z | z
      · omega
      · exact z
    have hge : seg ns (y - 1) x ≤ seg ns i x := seg_mono hnn (by omega) (by omega) (by omega)
    cases j with
    | zero =>
      have := h.at0 rfl
      subst this
      simp only [T] at hv
      rw [if_pos (by omega)] at hv
      have := Option.some.inj hv
      omega
    | succ j =>
      refine Classical.byContradiction fun hn => ?_
      obtain ⟨⟨e, u, he1, he2, hu, hvu⟩, _⟩ := T_mem hv
      unfold both at hvu
      rw [if_pos rfl] at hvu
      have hxe : x ≤ e := by
        refine Classical.byContradiction fun z => ?_
        have := h.no j rfl e (by omega) (by omega) u hu
        omega
      have := seg_mono' hnn (i := i) (e := x) (f := e) (by omega) hxe (by omega)
      omega
theorem Back.top {ns : List Int} (hnn : ∀ n ∈ ns, 0 ≤ n) {t : Int} {m x : Nat} (h : Back ns t m (m - 1) x) (hm : 2 ≤ m) (hmn : m ≤ ns.length) (hT : T 0 ns (m - 1) 0 = some t) : 0 < x ∧ seg ns 0 x ≤ t := by
  obtain ⟨j, hj⟩ : ∃ j, m - 1 = j + 1 := ⟨m - 2, by omega⟩
  have hg := h.ge (by omega)
  rw [hj] at hT
  obtain ⟨⟨e, u, he1, he2, hu, hvu⟩, _⟩ := T_mem hT
  unfold both at hvu
  rw [if_pos rfl] at hvu
  have hxe : x ≤ e := by
    refine Classical.byContradiction fun z => ?_
    have := h.no j hj e (by omega) (by omega) u hu
    omega
  have := seg_mono' hnn (i := 0) (e := x) (f := e) (by omega) hxe (by omega)
  exact ⟨by omega, by omega⟩
end M7

set_option linter.all false
namespace M34
open M5 M10 M11
theorem slice_seg {ns : List Int} {x y : Nat} (h : x ≤ y) : ((ns.drop x).take (y - x)).sum = seg ns x y := by
  rw [seg_take, show x + (y - x) = y by omega]
/-- a paper of the least: places of a row of n, rising -/
structure PlN (qs : List Nat) (n : Nat) : Prop where
  up : qs.Pairwise (· < ·)
  hi : ∀ q ∈ qs, q < n
end M34

set_option linter.all false
namespace M25
/-- the sum of the first i numbers -/
def S (ns : List Int) (i : Nat) : Int := (ns.take i).sum
theorem S_zero (ns : List Int) : S ns 0 = 0 := by simp [S]
theorem S_succ {ns : List Int} {i : Nat} {x : Int} (h : ns[i]? = some x) : S ns (i + 1) = S ns i + x := by
  unfold S
  rw [List.take_add_one, h, List.sum_append]; simp
theorem S_bd {ns : List Int} (h0 : ∀ n ∈ ns, 0 ≤ n) (h1 : ∀ n ∈ ns, n ≤ 1000000000000) : ∀ i, 0 ≤ S ns i ∧ S ns i ≤ 1000000000000 * i
  | 0 => by rw [S_zero]; omega
  | i + 1 => by
    have ih := S_bd h0 h1 i
    cases e : ns[i]? with
    | some x =>
      rw [S_succ e]
      have := h0 x (List.mem_of_getElem? e); have := h1 x (List.mem_of_getElem? e)
      omega
    | none =>
      have hl : ns.length ≤ i := List.getElem?_eq_none_iff.mp e
      have : S ns (i + 1) = S ns i := by unfold S; rw [List.take_of_length_le (by omega), List.take_of_length_le hl]
      rw [this]; omega
/-- a way of k steps from b to e at cost c -/
def Path (w : Nat → Nat → Int) : Nat → Nat → Nat → Int → Prop
  | 0, b, e, c => b = e ∧ c = 0
  | k + 1, b, e, c => ∃ m c', b < m ∧ Path w k m e c' ∧ c = w b m + c'
section
variable {w : Nat → Nat → Int}
def Least (w : Nat → Nat → Int) (k b e : Nat) (v : Int) : Prop := Path w k b e v ∧ ∀ c, Path w k b e c → v ≤ c
end
/-- the square of a stretch's sum -/
def sq (ns : List Int) (b e : Nat) : Int := (S ns e - S ns b) ^ 2
/-- what is collected for an end -/
structure Some_ (ns l : List Int) (i t upto : Nat) (vs : List Int) : Prop where
  a : ∀ v ∈ vs, ∃ m, i ≤ m ∧ m < upto ∧ 0 ≤ l.getD m 0 ∧ v = l.getD m 0 + sq ns m t
  b : ∀ m, i ≤ m → m < upto → 0 ≤ l.getD m 0 → l.getD m 0 + sq ns m t ∈ vs
end M25

set_option linter.all false
namespace M25
section
variable {w : Nat → Nat → Int}
/-- e can be the next place where k pieces are left from b to n -/
def Hit (w : Nat → Nat → Int) (n k b e : Nat) : Prop := ∃ v u, Least w (k - 1) e n v ∧ Least w k b n u ∧ w b e + v = u
def Step (w : Nat → Nat → Int) (n k b e : Nat) : Prop := b < e ∧ Hit w n k b e ∧ ∀ e', b < e' → e' < e → ¬ Hit w n k b e'
/-- the first cut, place by place -/
inductive Chain (w : Nat → Nat → Int) (n m : Nat) : Nat → List Nat → Nat → Prop where
  | nil : Chain w n m 0 [] 0
  | snoc {i b e : Nat} {cs : List Nat} (h : Chain w n m i cs b) (s : Step w n (m - i) b e) : Chain w n m (i + 1) (cs ++ [e]) e
end
end M25

set_option linter.all false
namespace M25
section
variable {w : Nat → Nat → Int}
end
theorem slice_S {ns : List Int} {b c : Nat} (h : b ≤ c) : ((ns.drop b).take (c - b)).sum = S ns c - S ns b := by
  unfold S
  have e : ns.take c = ns.take b ++ (ns.drop b).take (c - b) := by
    have := List.take_append_drop b (ns.take c)
    rw [List.take_take, Nat.min_eq_left h, List.drop_take] at this
    exact this.symm
  rw [e, List.sum_append]; omega
end M25

namespace M39
open M3
/-- places of a ring of n numbers -/
structure PlR (qs : List Nat) (n : Nat) : Prop where
  up : qs.Pairwise (· < ·)
  hi : ∀ q ∈ qs, q < n
  ne : 1 ≤ qs.length
def rotN (ns : List Int) (f : Nat) : List Int := ns.drop f ++ ns.take f
def ringC (qs : List Nat) : List Nat := qs.tail.map (· - qs.headD 0)
def ringS (ns : List Int) (qs : List Nat) : List Int := (pcs (rotN ns (qs.headD 0)) 0 (ringC qs)).map List.sum
theorem rot_len {ns : List Int} {f : Nat} (hf : f ≤ ns.length) : (rotN ns f).length = ns.length := by
  unfold rotN; rw [List.length_append, List.length_drop, List.length_take]; omega
theorem ring_cut {ns : List Int} {qs : List Nat} (h : PlR qs ns.length) : CutN (ringC qs) ns.length := by
  obtain ⟨f, qs, rfl⟩ : ∃ f r, qs = f :: r := by
    cases qs with
    | nil => have := h.ne; simp at this
    | cons f r => exact ⟨f, r, rfl⟩
  obtain ⟨h1, h2⟩ := List.pairwise_cons.mp h.up
  have hi := h.hi
  unfold ringC
  simp only [List.tail_cons, List.headD_cons]
  refine ⟨?_, fun c hc => ?_, fun c hc => ?_⟩
  · rw [List.pairwise_map]
    refine List.Pairwise.imp_of_mem (fun {a b} ha hb hab => ?_) h2
    have := h1 a ha; have := h1 b hb
    omega
  · obtain ⟨a, ha, rfl⟩ := List.mem_map.mp hc
    have := h1 a ha; omega
  · obtain ⟨a, ha, rfl⟩ := List.mem_map.mp hc
    have := hi a (List.mem_cons_of_mem _ ha); omega
theorem ring_len {ns : List Int} {qs : List Nat} (h : 1 ≤ qs.length) : (ringS ns qs).length = qs.length := by
  unfold ringS ringC; rw [List.length_map, pcs_len, List.length_map, List.length_tail]; omega
end M39

set_option linter.all false
namespace M40
open M3 M25 M39
/-- from b by cs to the end, whose height is t: no step above u -/
def Kr (s : Nat → Int) (t u : Int) : Nat → List Nat → Prop
  | b, [] => t - s b ≤ u
  | b, c :: cs => s c - s b ≤ u ∧ Kr s t u c cs
section
variable {s s' : Nat → Int} {t t' u : Int}
theorem kr_congr : ∀ {cs : List Nat} {b : Nat}, (∀ c ∈ b :: cs, s c = s' c) → (Kr s t u b cs ↔ Kr s' t u b cs)
  | [], b, h => by simp only [Kr]; rw [h b (by simp)]
  | c :: cs, b, h => by
    simp only [Kr]
    rw [h b (by simp), h c (by simp), kr_congr fun x hx => h x (List.mem_cons_of_mem _ hx)]
theorem kr_shift (f : Nat) (d : Int) : ∀ {cs : List Nat} {b : Nat}, Kr (fun c => s (f + c) - d) (t - d) u b cs ↔ Kr s t u (f + b) (cs.map (f + ·))
  | [], b => by simp only [Kr, List.map_nil]; omega
  | c :: cs, b => by
    simp only [Kr, List.map_cons]
    rw [kr_shift f d]
    constructor <;> rintro ⟨h1, h2⟩ <;> exact ⟨by omega, h2⟩
theorem kr_app : ∀ {cs ds : List Nat} {b e : Nat}, Kr s t u b (cs ++ e :: ds) ↔ Kr s (s e) u b cs ∧ Kr s t u e ds
  | [], ds, b, e => by simp only [List.nil_append, Kr]
  | c :: cs, ds, b, e => by
    simp only [List.cons_append, Kr]
    rw [kr_app]
    constructor
    · rintro ⟨h1, h2, h3⟩; exact ⟨⟨h1, h2⟩, h3⟩
    · rintro ⟨⟨h1, h2⟩, h3⟩; exact ⟨h1, h2, h3⟩
theorem kr_up {u' : Int} (hu : u ≤ u') : ∀ {cs : List Nat} {b : Nat}, Kr s t u b cs → Kr s t u' b cs
  | [], b, h => by have h : t - s b ≤ u := h; show t - s b ≤ u'; omega
  | c :: cs, b, h => ⟨by have := h.1; omega, kr_up hu h.2⟩
end
section
variable {ns : List Int} {u : Int}
theorem pcs_kr : ∀ (cs : List Nat) (b : Nat), cs.Pairwise (· < ·) → (∀ c ∈ cs, b ≤ c ∧ c ≤ ns.length) → b ≤ ns.length → ((∀ p ∈ pcs ns b cs, p.sum ≤ u) ↔ Kr (S ns) (S ns ns.length) u b cs)
  | [], b, _, _, hb => by
    have e : (ns.drop b).sum = S ns ns.length - S ns b := by
      have := slice_S (ns := ns) hb
      rw [List.take_of_length_le (by simp)] at this
      exact this
    simp only [pcs, List.mem_singleton, forall_eq, Kr, e]
  | c :: cs, b, hp, hc, hb => by
    have h1 := hc c List.mem_cons_self
    have ih := pcs_kr cs c (List.pairwise_cons.mp hp).2 (fun x hx => ⟨Nat.le_of_lt ((List.pairwise_cons.mp hp).1 x hx), (hc x (List.mem_cons_of_mem _ hx)).2⟩) h1.2
    simp only [pcs, List.mem_cons, forall_eq_or_imp, Kr, slice_S h1.1, ih]
/-- the sums of a ring go up to u -/
def RK (ns : List Int) (u : Int) : List Nat → Prop
  | [] => False
  | f :: rest => Kr (S ns) (S ns ns.length + S ns f) u f rest
theorem S_rot {f c : Nat} (hf : f ≤ ns.length) (hc : c ≤ ns.length - f) : S (rotN ns f) c = S ns (f + c) - S ns f := by
  rw [← slice_S (Nat.le_add_right f c)]
  unfold S rotN
  rw [List.take_append_of_le_length (by rw [List.length_drop]; exact hc), show f + c - f = c by omega]
theorem S_all (ns : List Int) : S ns ns.length = ns.sum := by unfold S; rw [List.take_length]
theorem S_rot_all {f : Nat} (hf : f ≤ ns.length) : S (rotN ns f) (rotN ns f).length = S ns ns.length := by
  rw [S_all, S_all]
  unfold rotN
  rw [List.sum_append, Int.add_comm, ← List.sum_append, List.take_append_drop]
theorem ring_rk {qs : List Nat} (h : PlR qs ns.length) : (∀ x ∈ ringS ns qs, x ≤ u) ↔ RK ns u qs := by
  obtain ⟨f, rest, rfl⟩ : ∃ f r, qs = f :: r := by
    cases qs with
    | nil => have := h.ne; simp at this
    | cons f r => exact ⟨f, r, rfl⟩
  have hf := h.hi f List.mem_cons_self
  obtain ⟨hlt, hup⟩ := List.pairwise_cons.mp h.up
  have hcut := ring_cut h
  have hrl := rot_len (ns := ns) (f := f) (Nat.le_of_lt hf)
  have e1 : (∀ x ∈ ringS ns (f :: rest), x ≤ u) ↔ ∀ p ∈ pcs (rotN ns f) 0 (ringC (f :: rest)), p.sum ≤ u := by
    unfold ringS
    simp only [List.mem_map, forall_exists_index, and_imp, forall_apply_eq_imp_iff₂, List.headD_cons]
  rw [e1, pcs_kr _ _ hcut.up (fun c hc => ⟨Nat.zero_le _, by rw [hrl]; exact Nat.le_of_lt (hcut.hi c hc)⟩) (Nat.zero_le _), S_rot_all (Nat.le_of_lt hf)]
  have e2 : (ringC (f :: rest)).map (f + ·) = rest := by
    unfold ringC
    simp only [List.tail_cons, List.headD_cons, List.map_map]
    conv => rhs; rw [← List.map_id rest]
    refine List.map_congr_left fun x hx => ?_
    have := hlt x hx
    show f + (x - f) = x
    omega
  have e3 : S ns ns.length = (S ns ns.length + S ns f) - S ns f := by omega
  rw [kr_congr (s' := fun c => S ns (f + c) - S ns f) fun c hc => S_rot (Nat.le_of_lt hf) ?_, e3, kr_shift f (S ns f), e2]
  · simp only [RK, Nat.add_zero, Int.sub_add_cancel]
  · rcases List.mem_cons.mp hc with rfl | hc
    · omega
    · unfold ringC at hc
      obtain ⟨x, hx, rfl⟩ := List.mem_map.mp hc
      have := h.hi x (List.mem_cons_of_mem _ hx)
      simp only [List.headD_cons]
      omega
/-- the row opened at a place, what is ahead added to its last number -/
def opn (ns : List Int) (f : Nat) : List Int := (ns.drop f).dropLast ++ [ns.getLastD 0 + S ns f]
theorem opn_len {f : Nat} (hf : f < ns.length) : (opn ns f).length = ns.length - f := by
  unfold opn
  rw [List.length_append, List.length_dropLast, List.length_drop]
  simp; omega
theorem S_opn {f c : Nat} (hf : f < ns.length) (hc : c < ns.length - f) : S (opn ns f) c = S ns (f + c) - S ns f := by
  rw [← slice_S (Nat.le_add_right f c)]
  unfold S opn
  rw [List.take_append_of_le_length (by rw [List.length_dropLast, List.length_drop]; omega), show f + c - f = c by omega, List.dropLast_eq_take, List.take_take, Nat.min_eq_left (by rw [List.length_drop]; omega)]
theorem drop_last {f : Nat} (hf : f < ns.length) : (ns.drop f).dropLast ++ [ns.getLastD 0] = ns.drop f := by
  have hne : ns.drop f ≠ [] := fun z => by have := congrArg List.length z; rw [List.length_drop, List.length_nil] at this; omega
  have e : ns.getLastD 0 = (ns.drop f).getLast hne := by
    rw [List.getLast_drop]
    have hn : ns ≠ [] := fun z => by rw [z] at hf; simp at hf
    rw [List.getLastD_eq_getLast?, List.getLast?_eq_some_getLast hn]; rfl
  rw [e, List.dropLast_concat_getLast]
theorem S_opn_all {f : Nat} (hf : f < ns.length) : S (opn ns f) (opn ns f).length = S ns ns.length := by
  rw [S_all]
  have h1 := congrArg List.sum (drop_last hf)
  rw [List.sum_append] at h1
  unfold opn
  rw [List.sum_append]
  have h2 := slice_S (ns := ns) (Nat.le_of_lt hf)
  rw [List.take_of_length_le (by rw [List.length_drop]; omega)] at h2
  simp only [List.sum_cons, List.sum_nil] at h1 ⊢
  omega
theorem opn_rk {f : Nat} (hf : f < ns.length) {cs : List Nat} (hc : CutN cs (ns.length - f)) : (∀ p ∈ pcs (opn ns f) 0 cs, p.sum ≤ u) ↔ RK ns u (f :: cs.map (f + ·)) := by
  have hl := opn_len hf
  rw [pcs_kr _ _ hc.up (fun c h => ⟨Nat.zero_le _, by rw [hl]; exact Nat.le_of_lt (hc.hi c h)⟩) (Nat.zero_le _), S_opn_all hf]
  have e3 : S ns ns.length = (S ns ns.length + S ns f) - S ns f := by omega
  rw [kr_congr (s' := fun c => S ns (f + c) - S ns f) fun c h => S_opn hf ?_, e3, kr_shift f (S ns f)]
  · simp only [RK, Nat.add_zero, Int.sub_add_cancel]
  · rcases List.mem_cons.mp h with rfl | h
    · omega
    · exact hc.hi c h
end
/-! ### which list of places stands ahead -/
def Ahead : List Nat → List Nat → Prop
  | x :: xs, y :: ys => x < y ∨ x = y ∧ Ahead xs ys
  | _, _ => False
theorem ahead_tr : ∀ {a b c : List Nat}, Ahead a b → Ahead b c → Ahead a c
  | x :: a, y :: b, z :: c, h1, h2 => by
    rcases h1 with h1 | ⟨rfl, h1⟩
    · rcases h2 with h2 | ⟨rfl, h2⟩
      · exact .inl (by omega)
      · exact .inl h1
    · rcases h2 with h2 | ⟨rfl, h2⟩
      · exact .inl h2
      · exact .inr ⟨rfl, ahead_tr h1 h2⟩
  | [], _, _, h, _ => h.elim
  | _ :: _, [], _, h, _ => h.elim
  | _ :: _, _ :: _, [], _, h => h.elim
theorem ahead_tot : ∀ {a b : List Nat}, a.length = b.length → Ahead a b ∨ a = b ∨ Ahead b a
  | [], [], _ => .inr (.inl rfl)
  | x :: a, y :: b, h => by
    rcases Nat.lt_trichotomy x y with z | rfl | z
    · exact .inl (.inl z)
    · rcases ahead_tot (a := a) (b := b) (by simpa using h) with q | rfl | q
      · exact .inl (.inr ⟨rfl, q⟩)
      · exact .inr (.inl rfl)
      · exact .inr (.inr (.inr ⟨rfl, q⟩))
    · exact .inr (.inr (.inl z))
theorem ahead_map {g : Nat → Nat} (hg : ∀ x y, x < y → g x < g y) : ∀ {a b : List Nat}, Ahead (a.map g) (b.map g) → Ahead a b
  | x :: a, y :: b, h => by
    rcases h with h | ⟨e, h⟩
    · rcases Nat.lt_trichotomy x y with z | rfl | z
      · exact .inl z
      · omega
      · have := hg y x z; omega
    · rcases Nat.lt_trichotomy x y with z | rfl | z
      · have := hg x y z; omega
      · exact .inr ⟨rfl, ahead_map hg h⟩
      · have := hg y x z; omega
/-- the least greatest sum of a ring, and the first places that have it -/
structure RB (ns : List Int) (m : Nat) (v : Int) (qs : List Nat) : Prop where
  pl : PlR qs ns.length
  len : qs.length = m
  keep : RK ns v qs
  least : ∀ qs' u, PlR qs' ns.length → qs'.length = m → RK ns u qs' → v ≤ u
  first : ∀ qs', PlR qs' ns.length → qs'.length = m → RK ns v qs' → ¬ Ahead qs' qs
theorem RB.uniq {ns : List Int} {m : Nat} {v v' : Int} {qs qs' : List Nat} (h : RB ns m v qs) (h' : RB ns m v' qs') : v = v' ∧ qs = qs' := by
  have e : v = v' := Int.le_antisymm (h.least qs' v' h'.pl h'.len h'.keep) (h'.least qs v h.pl h.len h.keep)
  subst e
  refine ⟨rfl, ?_⟩
  rcases ahead_tot (a := qs) (b := qs') (by rw [h.len, h'.len]) with z | z | z
  · exact absurd z (h'.first qs h.pl h.len h.keep)
  · exact z
  · exact absurd z (h.first qs' h'.pl h'.len h'.keep)
theorem rk_up {ns : List Int} {u u' : Int} (h : u ≤ u') : ∀ {qs : List Nat}, RK ns u qs → RK ns u' qs
  | f :: rest, k => kr_up h k
/-- so many places keep to u -/
def Can (ns : List Int) (m : Nat) (u : Int) : Prop := ∃ qs, PlR qs ns.length ∧ qs.length = m ∧ RK ns u qs
theorem RB.iff {ns : List Int} {m : Nat} {v : Int} {qs : List Nat} (h : RB ns m v qs) (u : Int) : v ≤ u ↔ Can ns m u :=
  ⟨fun z => ⟨qs, h.pl, h.len, rk_up z h.keep⟩, fun ⟨qs', h1, h2, h3⟩ => h.least qs' u h1 h2 h3⟩
theorem row_room {n : Nat} : ∀ (cs : List Nat) (b : Nat), (b :: cs).Pairwise (· < ·) → (∀ c ∈ b :: cs, c < n) → b + cs.length + 1 ≤ n
  | [], b, _, h => by have := h b (by simp); simp; omega
  | c :: cs, b, hp, h => by
    obtain ⟨p1, p2⟩ := List.pairwise_cons.mp hp
    have := row_room cs c p2 fun x hx => h x (List.mem_cons_of_mem _ hx)
    have := p1 c (by simp)
    rw [List.length_cons]; omega
/-- places of a ring and cuts of the opened row -/
theorem pl_cut {qs : List Nat} {n : Nat} (h : PlR qs n) : ∃ f cs, qs = f :: cs.map (f + ·) ∧ CutN cs (n - f) ∧ f < n ∧ f + qs.length ≤ n := by
  obtain ⟨f, rest, rfl⟩ : ∃ f r, qs = f :: r := by
    cases qs with
    | nil => have := h.ne; simp at this
    | cons f r => exact ⟨f, r, rfl⟩
  have hf := h.hi f List.mem_cons_self
  obtain ⟨hlt, hup⟩ := List.pairwise_cons.mp h.up
  have e2 : rest = (rest.map (· - f)).map (f + ·) := by
    rw [List.map_map]
    conv => lhs; rw [← List.map_id rest]
    refine List.map_congr_left fun x hx => ?_
    have := hlt x hx
    show x = f + (x - f)
    omega
  have hc : CutN (rest.map (· - f)) (n - f) := ⟨by
    rw [List.pairwise_map]
    exact List.Pairwise.imp_of_mem (fun {a b} ha hb hab => by have := hlt a ha; have := hlt b hb; omega) hup, fun c hc => by
    obtain ⟨x, hx, rfl⟩ := List.mem_map.mp hc
    have := hlt x hx; omega, fun c hc => by
    obtain ⟨x, hx, rfl⟩ := List.mem_map.mp hc
    have := hlt x hx
    have := h.hi x (List.mem_cons_of_mem _ hx)
    omega⟩
  have hl := row_room rest f h.up h.hi
  exact ⟨f, rest.map (· - f), by rw [← e2], hc, hf, by rw [List.length_cons]; omega⟩
theorem cut_pl {f n : Nat} {cs : List Nat} (hf : f < n) (h : CutN cs (n - f)) : PlR (f :: cs.map (f + ·)) n := by
  refine ⟨List.pairwise_cons.mpr ⟨fun x hx => ?_, ?_⟩, fun x hx => ?_, by simp⟩
  · obtain ⟨c, hc, rfl⟩ := List.mem_map.mp hx
    have := h.lo c hc; omega
  · rw [List.pairwise_map]
    exact h.up.imp fun a => by omega
  · rcases List.mem_cons.mp hx with rfl | hx
    · exact hf
    · obtain ⟨c, hc, rfl⟩ := List.mem_map.mp hx
      have := h.hi c hc; omega
end M40

set_option linter.all false
namespace M40
open M3 M25 M39
theorem T_le {ns : List Int} {u : Int} : ∀ (k i : Nat) (cs : List Nat), cs.length = k → cs.Pairwise (· < ·) → (∀ c ∈ cs, i < c ∧ c < ns.length) → i < ns.length → (∀ p ∈ pcs ns i cs, p.sum ≤ u) → ∃ v, M11.T 0 ns k i = some v ∧ v ≤ u
  | 0, i, cs, hl, _, _, hi, h => by
    have : cs = [] := List.length_eq_zero_iff.mp hl
    subst this
    refine ⟨M5.seg ns i ns.length, by simp only [M11.T]; rw [if_pos hi], ?_⟩
    rw [M7.seg_all]
    exact h _ (by simp [pcs])
  | k + 1, i, cs, hl, hp, hc, hi, h => by
    cases cs with
    | nil => simp at hl
    | cons c cs =>
      obtain ⟨p1, p2⟩ := List.pairwise_cons.mp hp
      have hc0 := hc c List.mem_cons_self
      obtain ⟨v, hv, hvu⟩ := T_le k c cs (by simpa using hl) p2 (fun x hx => ⟨p1 x hx, (hc x (List.mem_cons_of_mem _ hx)).2⟩) hc0.2 fun p hp => h p (by simp only [pcs]; exact List.mem_cons_of_mem _ hp)
      have hroom := row_room cs c hp fun x hx => (hc x hx).2
      have hl' : cs.length = k := by simpa using hl
      obtain ⟨t, ht⟩ := M11.T_some (w := 0) (ns := ns) (k := k + 1) (i := i) (by omega)
      have hle := (M11.T_mem ht).2 c v hc0.1 (by omega) hv
      have h1 := h ((ns.drop i).take (c - i)) (by simp [pcs])
      rw [M34.slice_seg (by omega)] at h1
      refine ⟨t, ht, ?_⟩
      unfold M11.Le M11.both at hle
      simp only [if_true] at hle
      omega
/-- the best places that begin at f -/
structure FB (ns : List Int) (m f : Nat) (v : Int) (qs : List Nat) : Prop where
  pl : PlR qs ns.length
  len : qs.length = m
  keep : RK ns v qs
  least : ∀ cs u, CutN cs (ns.length - f) → cs.length + 1 = m → RK ns u (f :: cs.map (f + ·)) → v ≤ u
  first : ∀ cs, CutN cs (ns.length - f) → cs.length + 1 = m → RK ns v (f :: cs.map (f + ·)) → ¬ Ahead (f :: cs.map (f + ·)) qs
theorem rb_of {ns : List Int} {m f0 : Nat} {v : Int} {qs : List Nat} (h : FB ns m f0 v qs) (hF : ∀ f, f + m ≤ ns.length → ∃ vf qf, FB ns m f vf qf ∧ v ≤ vf ∧ (vf = v → ¬ Ahead qf qs)) : RB ns m v qs := by
  refine ⟨h.pl, h.len, h.keep, fun qs' u h1 h2 h3 => ?_, fun qs' h1 h2 h3 hah => ?_⟩
  · obtain ⟨f, cs, rfl, hc, hf, hr⟩ := pl_cut h1
    have hl : cs.length + 1 = m := by simpa using h2
    obtain ⟨vf, qf, g1, g2, _⟩ := hF f (by rw [h2] at hr; exact hr)
    have := g1.least cs u hc hl h3
    omega
  · obtain ⟨f, cs, rfl, hc, hf, hr⟩ := pl_cut h1
    have hl : cs.length + 1 = m := by simpa using h2
    obtain ⟨vf, qf, g1, g2, g3⟩ := hF f (by rw [h2] at hr; exact hr)
    have e : vf = v := Int.le_antisymm (g1.least cs v hc hl h3) g2
    have n1 := g3 e
    subst e
    have n2 := g1.first cs hc hl h3
    rcases ahead_tot (a := f :: cs.map (f + ·)) (b := qf) (by rw [h2, g1.len]) with z | z | z
    · exact n2 z
    · exact n1 (z ▸ hah)
    · exact n1 (ahead_tr z hah)
/-! ### more places, other numbers -/
section
variable {ns : List Int} {u : Int}
end
end M40

set_option linter.all false
namespace M40
open M3 M25 M39
/-! ### a ring turned -/
section
variable {ns : List Int} {u : Int}
/-- the sums ahead, going round and round -/
def P (ns : List Int) (x : Nat) : Int := S ns (x % ns.length) + ((x / ns.length : Nat) : Int) * S ns ns.length
theorem P_lt {x : Nat} (h : x < ns.length) : P ns x = S ns x := by unfold P; rw [Nat.mod_eq_of_lt h, Nat.div_eq_of_lt h]; simp
theorem P_add (hn : 0 < ns.length) (x : Nat) : P ns (x + ns.length) = P ns x + S ns ns.length := by
  unfold P
  rw [Nat.add_mod_right, Nat.add_div_right _ hn]
  rw [Int.natCast_add, Int.add_mul]; simp; omega
theorem P_le {x : Nat} (h : x ≤ ns.length) (hn : 0 < ns.length) : P ns x = S ns x := by
  by_cases e : x = ns.length
  · subst e
    have := P_add hn 0
    rw [Nat.zero_add] at this
    rw [this, P_lt hn, S_zero]; omega
  · exact P_lt (by omega)
theorem P_mul (hn : 0 < ns.length) (x : Nat) : ∀ k : Nat, P ns (x + ns.length * k) = P ns x + (k : Int) * S ns ns.length
  | 0 => by simp
  | k + 1 => by
    have e : x + ns.length * (k + 1) = (x + ns.length * k) + ns.length := by rw [Nat.mul_succ]; omega
    rw [e, P_add hn, P_mul hn x k, Int.natCast_add, Int.add_mul]; simp; omega
theorem S_rot_far {f c : Nat} (hf : f ≤ ns.length) (h1 : ns.length - f ≤ c) (h2 : c ≤ ns.length) : S (rotN ns f) c = S ns ns.length - S ns f + S ns (c - (ns.length - f)) := by
  have h3 := slice_S (ns := ns) hf
  rw [List.take_of_length_le (by rw [List.length_drop]; omega)] at h3
  unfold S rotN at *
  rw [List.take_append, List.take_of_length_le (by rw [List.length_drop]; omega), List.sum_append, h3, List.length_drop, List.take_take, Nat.min_eq_left (by omega)]
theorem P_rot (hn : 0 < ns.length) {r : Nat} (hr : r ≤ ns.length) (x : Nat) : P (rotN ns r) x = P ns (r + x) - P ns r := by
  have hl := rot_len (ns := ns) hr
  have hS := S_rot_all (ns := ns) hr
  have hlt := Nat.mod_lt x hn
  have hx := Nat.mod_add_div x ns.length
  have e1 : P ns (r + x) = P ns (r + x % ns.length) + ((x / ns.length : Nat) : Int) * S ns ns.length := by
    rw [← P_mul hn]; congr 1; omega
  rw [e1]
  unfold P
  rw [hS, hl]
  have key : S (rotN ns r) (x % ns.length) = P ns (r + x % ns.length) - P ns r := by
    rw [P_le hr hn]
    by_cases c : x % ns.length ≤ ns.length - r
    · rw [S_rot hr c, P_le (by omega) hn]
    · rw [S_rot_far hr (by omega) (by omega)]
      have e2 : r + x % ns.length = (x % ns.length - (ns.length - r)) + ns.length := by omega
      rw [e2, P_add hn, P_lt (by omega)]
      omega
  have e3 : ∀ y, S ns (y % ns.length) + ((y / ns.length : Nat) : Int) * S ns ns.length = P ns y := fun y => rfl
  rw [e3, e3, key]
  omega
/-- places on the line, from the first to it again a turn later -/
def LK (ns : List Int) (u : Int) : List Nat → Prop
  | [] => False
  | f :: rest => Kr (P ns) (P ns (f + ns.length)) u f rest
theorem lk_rk (hn : 0 < ns.length) : ∀ {qs : List Nat}, (∀ q ∈ qs, q < ns.length) → (LK ns u qs ↔ RK ns u qs)
  | [], _ => Iff.rfl
  | f :: rest, h => by
    show Kr (P ns) (P ns (f + ns.length)) u f rest ↔ Kr (S ns) (S ns ns.length + S ns f) u f rest
    rw [kr_congr fun c hc => P_lt (h c hc), P_add hn, P_lt (h f (by simp)), Int.add_comm]
theorem lk_step (hn : 0 < ns.length) (f : Nat) : ∀ l : List Nat, LK ns u (f :: l) ↔ LK ns u (l ++ [f + ns.length])
  | [] => by
    show P ns (f + ns.length) - P ns f ≤ u ↔ P ns (f + ns.length + ns.length) - P ns (f + ns.length) ≤ u
    rw [P_add hn, P_add hn, P_add hn]; constructor <;> intro h <;> omega
  | g :: l => by
    show P ns g - P ns f ≤ u ∧ Kr (P ns) (P ns (f + ns.length)) u g l ↔ Kr (P ns) (P ns (g + ns.length)) u g (l ++ [f + ns.length])
    rw [kr_app]
    show _ ↔ _ ∧ P ns (g + ns.length) - P ns (f + ns.length) ≤ u
    rw [P_add hn g, P_add hn f]
    constructor
    · rintro ⟨h1, h2⟩; exact ⟨h2, by omega⟩
    · rintro ⟨h1, h2⟩; exact ⟨by omega, h1⟩
theorem lk_turn (hn : 0 < ns.length) : ∀ (A B : List Nat), LK ns u (A ++ B) ↔ LK ns u (B ++ A.map (· + ns.length))
  | [], B => by simp
  | f :: A, B => by
    rw [List.cons_append, lk_step hn, List.append_assoc, lk_turn hn A, List.append_assoc]; rfl
theorem lk_rot (hn : 0 < ns.length) {r : Nat} (hr : r ≤ ns.length) : ∀ {qs : List Nat}, LK (rotN ns r) u qs ↔ LK ns u (qs.map (r + ·))
  | [] => Iff.rfl
  | f :: rest => by
    show Kr (P (rotN ns r)) (P (rotN ns r) (f + (rotN ns r).length)) u f rest ↔ Kr (P ns) (P ns (r + f + ns.length)) u (r + f) (rest.map (r + ·))
    rw [rot_len hr, show P (rotN ns r) = fun x => P ns (r + x) - P ns r from funext fun x => P_rot hn hr x]
    simp only []
    rw [← Nat.add_assoc, kr_shift r (P ns r)]
/-- places parted at r -/
theorem part_at (r : Nat) : ∀ {qs : List Nat}, qs.Pairwise (· < ·) → ∃ A B, qs = A ++ B ∧ (∀ a ∈ A, a < r) ∧ ∀ b ∈ B, r ≤ b
  | [], _ => ⟨[], [], rfl, by simp, by simp⟩
  | x :: xs, h => by
    obtain ⟨p1, p2⟩ := List.pairwise_cons.mp h
    by_cases c : x < r
    · obtain ⟨A, B, rfl, h1, h2⟩ := part_at r p2
      refine ⟨x :: A, B, rfl, fun a ha => ?_, h2⟩
      rcases List.mem_cons.mp ha with rfl | ha
      · exact c
      · exact h1 a ha
    · refine ⟨[], x :: xs, rfl, by simp, fun b hb => ?_⟩
      rcases List.mem_cons.mp hb with rfl | hb
      · omega
      · have := p1 b hb; omega
/-- the places seen from r -/
def seen (n r : Nat) (A B : List Nat) : List Nat := B.map (· - r) ++ A.map (· + (n - r))
theorem seen_pl {n r : Nat} {A B : List Nat} (hr : r ≤ n) (h : PlR (A ++ B) n) (hA : ∀ a ∈ A, a < r) (hB : ∀ b ∈ B, r ≤ b) : PlR (seen n r A B) n := by
  obtain ⟨p1, p2, p3⟩ := List.pairwise_append.mp h.up
  refine ⟨List.pairwise_append.mpr ⟨?_, ?_, fun x hx y hy => ?_⟩, fun x hx => ?_, ?_⟩
  · rw [List.pairwise_map]
    exact List.Pairwise.imp_of_mem (fun {a b} ha hb hab => by have := hB a ha; have := hB b hb; omega) p2
  · rw [List.pairwise_map]
    exact p1.imp fun a => by omega
  · obtain ⟨b, hb, rfl⟩ := List.mem_map.mp hx
    obtain ⟨a, ha, rfl⟩ := List.mem_map.mp hy
    have := hB b hb
    have := h.hi b (List.mem_append_right _ hb)
    omega
  · rcases List.mem_append.mp hx with hx | hx
    · obtain ⟨b, hb, rfl⟩ := List.mem_map.mp hx
      have := hB b hb
      have := h.hi b (List.mem_append_right _ hb)
      omega
    · obtain ⟨a, ha, rfl⟩ := List.mem_map.mp hx
      have := hA a ha; omega
  · unfold seen
    rw [List.length_append, List.length_map, List.length_map]
    have := h.ne
    rw [List.length_append] at this
    omega
theorem seen_len {n r : Nat} {A B : List Nat} : (seen n r A B).length = (A ++ B).length := by
  unfold seen
  rw [List.length_append, List.length_map, List.length_map, List.length_append]; omega
theorem seen_rk {r : Nat} {A B : List Nat} (hr : r ≤ ns.length) (h : PlR (A ++ B) ns.length) (hA : ∀ a ∈ A, a < r) (hB : ∀ b ∈ B, r ≤ b) : RK (rotN ns r) u (seen ns.length r A B) ↔ RK ns u (A ++ B) := by
  have hn : 0 < ns.length := by
    have := h.ne
    cases hq : A ++ B with
    | nil => rw [hq] at this; simp at this
    | cons x xs => have := h.hi x (by rw [hq]; simp); omega
  have hl := rot_len (ns := ns) hr
  have hs := seen_pl hr h hA hB
  rw [← lk_rk (by omega) (by rw [hl]; exact hs.hi), lk_rot hn hr, ← lk_rk hn h.hi, lk_turn hn A B]
  have e : (seen ns.length r A B).map (r + ·) = B ++ A.map (· + ns.length) := by
    unfold seen
    rw [List.map_append, List.map_map, List.map_map]
    congr 1
    · conv => rhs; rw [← List.map_id B]
      refine List.map_congr_left fun b hb => ?_
      have := hB b hb
      show r + (b - r) = b; omega
    · refine List.map_congr_left fun a ha => ?_
      show r + (a + (ns.length - r)) = a + ns.length; omega
  rw [e]
theorem can_rot {m r : Nat} (hr : r ≤ ns.length) (h : Can ns m u) : Can (rotN ns r) m u := by
  obtain ⟨qs, h1, h2, h3⟩ := h
  obtain ⟨A, B, rfl, hA, hB⟩ := part_at r h1.up
  exact ⟨seen ns.length r A B, by rw [rot_len hr]; exact seen_pl hr h1 hA hB, by rw [seen_len]; exact h2, (seen_rk hr h1 hA hB).mpr h3⟩
theorem rot_back {r : Nat} (hr : r ≤ ns.length) : rotN (rotN ns r) (ns.length - r) = ns := by
  unfold rotN
  have e : (ns.drop r).length = ns.length - r := List.length_drop
  rw [List.drop_left' e, List.take_left' e, List.take_append_drop]
theorem can_rot_iff {m r : Nat} (hr : r ≤ ns.length) : Can (rotN ns r) m u ↔ Can ns m u :=
  ⟨fun h => by
    have := can_rot (ns := rotN ns r) (r := ns.length - r) (by rw [rot_len hr]; omega) h
    rwa [rot_back hr] at this, can_rot hr⟩
/-! ### a nought put in -/
end
end M40

set_option linter.all false
namespace M40
open M3 M25 M39
section
variable {ns : List Int} {u : Int}
end
end M40

set_option linter.all false
namespace M40
open M3 M25 M39
section
variable {ns : List Int} {u : Int}
end
end M40

namespace M4
open M3
theorem drop_take_drop (ns : List Int) {b c : Nat} (h : b ≤ c) : (ns.drop b).take (c - b) ++ ns.drop c = ns.drop b := by
  have := List.take_append_drop (c - b) (ns.drop b)
  rw [List.drop_drop, show b + (c - b) = c by omega] at this
  exact this
/-- the pieces put together again -/
theorem pcs_flat (ns : List Int) : ∀ (cs : List Nat) (b : Nat), (b :: cs).Pairwise (· < ·) → (pcs ns b cs).flatten = ns.drop b
  | [], b, _ => by simp [pcs]
  | c :: cs, b, h => by
    obtain ⟨h1, h2⟩ := List.pairwise_cons.mp h
    simp only [pcs, List.flatten_cons]
    rw [pcs_flat ns cs c h2, drop_take_drop ns (Nat.le_of_lt (h1 c List.mem_cons_self))]
theorem pcs_sum (ns : List Int) : ∀ (l : List (List Int)), (l.map List.sum).sum = l.flatten.sum
  | [] => rfl
  | x :: l => by simp [pcs_sum ns l]
end M4

set_option linter.all false
namespace M48
open M3 M25 M39 M40
variable {ns : List Int} {u : Int}
/-- steps of a list up to u -/
def Ch (u : Int) : List Int → Prop
  | a :: b :: l => b - a ≤ u ∧ Ch u (b :: l)
  | _ => True
theorem kr_ch {s : Nat → Int} {t : Int} : ∀ {cs : List Nat} {b : Nat}, Kr s t u b cs ↔ Ch u ((b :: cs).map s ++ [t])
  | [], b => by simp [Kr, Ch]
  | c :: cs, b => by
    simp only [Kr, List.map_cons, List.cons_append, Ch]
    rw [kr_ch]; rfl
theorem ch_app : ∀ {xs ys : List Int} {a : Int}, Ch u (xs ++ a :: ys) ↔ Ch u (xs ++ [a]) ∧ Ch u (a :: ys)
  | [], ys, a => by simp [Ch]
  | [x], ys, a => by simp [Ch]
  | x :: y :: xs, ys, a => by
    have := ch_app (xs := y :: xs) (ys := ys) (a := a)
    simp only [List.cons_append, Ch] at this ⊢
    rw [this]
    constructor
    · rintro ⟨h1, h2, h3⟩; exact ⟨⟨h1, h2⟩, h3⟩
    · rintro ⟨⟨h1, h2⟩, h3⟩; exact ⟨h1, h2, h3⟩
theorem ch_rev (k : Int) : ∀ (l : List Int), Ch u (l.reverse.map (k - ·)) ↔ Ch u l
  | [] => by simp [Ch]
  | [a] => by simp [Ch]
  | a :: b :: l => by
    have ih := ch_rev k (b :: l)
    have e : (a :: b :: l).reverse.map (k - ·) = l.reverse.map (k - ·) ++ (k - b) :: [k - a] := by simp
    have e2 : (b :: l).reverse.map (k - ·) = l.reverse.map (k - ·) ++ [k - b] := by simp
    rw [e, ch_app, ← e2, ih]
    simp only [Ch]
    constructor
    · rintro ⟨h1, h2, _⟩; exact ⟨by omega, h1⟩
    · rintro ⟨h1, h2⟩; exact ⟨h2, by omega, trivial⟩
theorem S_rev {c : Nat} (hc : c ≤ ns.length) : S ns.reverse c = S ns ns.length - S ns (ns.length - c) := by
  unfold S
  rw [List.take_reverse, List.sum_reverse, List.take_length]
  have := congrArg List.sum (List.take_append_drop (ns.length - c) ns)
  rw [List.sum_append] at this
  omega
theorem P_rev (hn : 0 < ns.length) {x : Nat} (h : x ≤ ns.length) : P ns.reverse x = S ns ns.length - P ns (ns.length - x) := by
  rw [P_le (by simpa using h) (by simpa using hn), P_le (Nat.sub_le _ _) hn, S_rev h]
theorem lk_shift (hn : 0 < ns.length) (qs : List Nat) : LK ns u (qs.map (· + ns.length)) ↔ LK ns u qs := by
  have := lk_turn (u := u) hn qs []
  simpa using this.symm
/-- places from behind -/
def mir (n : Nat) : List Nat → List Nat
  | [] => []
  | f :: cs => if f = 0 then 0 :: (cs.map (n - ·)).reverse else ((f :: cs).map (n - ·)).reverse
theorem lk_mir (hn : 0 < ns.length) {f : Nat} {cs : List Nat} (h : ∀ q ∈ f :: cs, q ≤ ns.length) : LK ns.reverse u (f :: cs) ↔ LK ns u ((ns.length - f) :: (cs.map fun c => ns.length - c + ns.length).reverse) := by
  show Kr (P ns.reverse) (P ns.reverse (f + ns.reverse.length)) u f cs ↔ Kr (P ns) (P ns (ns.length - f + ns.length)) u (ns.length - f) _
  have hr : 0 < ns.reverse.length := by simpa using hn
  rw [kr_ch, kr_ch, ← ch_rev (2 * S ns ns.length)]
  have hP : ∀ q ∈ f :: cs, P ns.reverse q = S ns ns.length - P ns (ns.length - q) := fun q hq => P_rev hn (h q hq)
  have hT : S ns.reverse ns.reverse.length = S ns ns.length := by rw [S_rev (by simp)]; simp [S]
  apply iff_of_eq
  congr 1
  simp only [List.map_cons, List.cons_append, List.reverse_cons, List.reverse_append, List.map_append, List.map_nil, List.map_reverse, List.nil_append, List.append_assoc, List.reverse_nil, List.singleton_append, List.map_map]
  rw [P_add hr, hP f (by simp), hT, P_add hn]
  refine congr (congrArg List.cons (by omega)) (congr (congrArg _ ?_) (by simp; omega))
  congr 1
  refine List.map_congr_left fun c hc => ?_
  simp only [Function.comp_apply]
  rw [hP c (by simp [hc]), P_add hn]
  omega
theorem mir_rk (hn : 0 < ns.length) : ∀ {qs : List Nat}, PlR qs ns.length → (RK ns.reverse u qs ↔ RK ns u (mir ns.length qs))
  | [], h => absurd h.ne (by simp)
  | f :: cs, h => by
    have hr : 0 < ns.reverse.length := by simpa using hn
    have hup := List.pairwise_cons.mp h.up
    have hc0 : ∀ c ∈ cs, 0 < c := fun c hc => Nat.lt_of_le_of_lt (Nat.zero_le f) (hup.1 c hc)
    rw [← lk_rk hr (fun q hq => by simpa using h.hi q hq), lk_mir hn (fun q hq => Nat.le_of_lt (h.hi q hq))]
    simp only [mir]
    split
    · rename_i hf
      subst hf
      rw [← lk_rk hn, ← lk_shift hn (0 :: (cs.map (ns.length - ·)).reverse)]
      · apply iff_of_eq
        congr 1
        simp only [List.map_cons, List.map_reverse, List.map_map, Nat.sub_zero, Nat.zero_add]
        rfl
      · intro q hq
        rcases List.mem_cons.mp hq with rfl | hq
        · exact hn
        · obtain ⟨c, hc, rfl⟩ := List.mem_map.mp (List.mem_reverse.mp hq)
          have := hc0 c hc
          omega
    · rename_i hf
      rw [lk_step hn, ← lk_rk hn, ← lk_shift hn ((f :: cs).map (ns.length - ·)).reverse]
      · apply iff_of_eq
        congr 1
        simp only [List.map_cons, List.reverse_cons, List.map_append, List.map_reverse, List.map_map, List.map_nil]
        rfl
      · intro q hq
        obtain ⟨c, hc, rfl⟩ := List.mem_map.mp (List.mem_reverse.mp hq)
        have : 0 < c := by
          rcases List.mem_cons.mp hc with rfl | hc
          · omega
          · exact hc0 c hc
        omega
theorem mir_pl {n : Nat} : ∀ {qs : List Nat}, PlR qs n → PlR (mir n qs) n ∧ (mir n qs).length = qs.length ∧ (mir n qs).Perm (qs.map fun p => (n - p) % n)
  | [], h => absurd h.ne (by simp)
  | f :: cs, h => by
    have hup := List.pairwise_cons.mp h.up
    have hfn := h.hi f (by simp)
    have hc0 : ∀ c ∈ cs, 0 < c ∧ c < n := fun c hc => ⟨Nat.lt_of_le_of_lt (Nat.zero_le f) (hup.1 c hc), h.hi c (by simp [hc])⟩
    have hm : cs.map (fun p => (n - p) % n) = cs.map (n - ·) := List.map_congr_left fun c hc => Nat.mod_eq_of_lt (by have := hc0 c hc; omega)
    have hcr : ((cs.map (n - ·)).reverse).Pairwise (· < ·) := by
      rw [List.pairwise_reverse, List.pairwise_map]
      exact List.Pairwise.imp_of_mem (fun {a b} ha hb hab => by have := hc0 a ha; have := hc0 b hb; omega) hup.2
    simp only [mir]
    split
    · rename_i hf
      subst hf
      refine ⟨⟨List.pairwise_cons.mpr ⟨fun q hq => ?_, hcr⟩, fun q hq => ?_, by simp⟩, by simp, ?_⟩
      · obtain ⟨c, hc, rfl⟩ := List.mem_map.mp (List.mem_reverse.mp hq)
        have := hc0 c hc; omega
      · rcases List.mem_cons.mp hq with rfl | hq
        · exact hfn
        · obtain ⟨c, hc, rfl⟩ := List.mem_map.mp (List.mem_reverse.mp hq)
          have := hc0 c hc; omega
      · rw [List.map_cons, hm, Nat.sub_zero, Nat.mod_self]
        exact (List.reverse_perm _).cons _
    · rename_i hf
      refine ⟨⟨?_, fun q hq => ?_, by simp⟩, by simp, ?_⟩
      · rw [List.pairwise_reverse, List.pairwise_map]
        exact List.Pairwise.imp_of_mem (fun {a b} ha hb hab => by have := h.hi a ha; have := h.hi b hb; omega) h.up
      · obtain ⟨c, hc, rfl⟩ := List.mem_map.mp (List.mem_reverse.mp hq)
        have : 0 < c := by
          rcases List.mem_cons.mp hc with rfl | hc
          · omega
          · exact (hc0 c hc).1
        omega
      · refine (List.reverse_perm _).trans ?_
        rw [List.map_cons, List.map_cons, hm, Nat.mod_eq_of_lt (by omega)]
/-- the ring from behind -/
theorem can_rev (hn : 0 < ns.length) {m : Nat} (h : Can ns.reverse m u) : Can ns m u := by
  obtain ⟨qs, h1, h2, h3⟩ := h
  have h1' : PlR qs ns.length := by simpa using h1
  obtain ⟨p1, p2, _⟩ := mir_pl h1'
  exact ⟨_, p1, p2.trans h2, (mir_rk hn h1').mp h3⟩
theorem rb_rev (hn : 0 < ns.length) {m : Nat} {v v' : Int} {qs qs' : List Nat} (h : RB ns m v qs) (h' : RB ns.reverse m v' qs') : v' = v := by
  refine Int.le_antisymm ((h'.iff v).mpr (can_rev (ns := ns.reverse) (by simpa using hn) ?_)) ((h.iff v').mpr (can_rev hn ((h'.iff v').mp (Int.le_refl _))))
  rw [List.reverse_reverse]
  exact (h.iff v).mp (Int.le_refl _)
/-- numbers in order that are those of rising places are these places -/
theorem sort_places {qs : List Nat} (h : qs.Pairwise (· < ·)) {ms : List Int} (hp : ms.Perm (qs.map fun (x : Nat) => (x : Int))) (hs : ms.Pairwise (· ≤ ·)) : ms = qs.map fun (x : Nat) => (x : Int) := by
  refine hp.eq_of_pairwise (le := (· ≤ ·)) (fun a b _ _ h1 h2 => Int.le_antisymm h1 h2) hs ?_
  rw [List.pairwise_map]
  exact h.imp fun hab => by omega
/-- .. each once, no more asked -/
theorem set_places {qs : List Nat} (h : qs.Pairwise (· < ·)) {ms : List Int} (hn : ms.Nodup) (hm : ∀ j, j ∈ ms ↔ j ∈ qs.map fun (x : Nat) => (x : Int)) (hs : ms.Pairwise (· ≤ ·)) : ms = qs.map fun (x : Nat) => (x : Int) := by
  refine sort_places h ?_ hs
  have h2 : (qs.map fun (x : Nat) => (x : Int)).Nodup := by
    refine List.Pairwise.map _ (fun a b hab => ?_) h
    intro z
    have : a < b := hab
    omega
  exact (List.perm_ext_iff_of_nodup hn h2).mpr hm
/-- turned forth -/
theorem turn_perm {n r : Nat} {A B : List Nat} (hr : r ≤ n) (h : PlR (A ++ B) n) (hA : ∀ a ∈ A, a < n - r) (hB : ∀ b ∈ B, n - r ≤ b) : (seen n (n - r) A B).Perm ((A ++ B).map fun p => (p + r) % n) := by
  unfold seen
  rw [List.map_append]
  have e1 : B.map (· - (n - r)) = B.map fun p => (p + r) % n := List.map_congr_left fun b hb => by
    have := hB b hb
    have := h.hi b (List.mem_append_right _ hb)
    rw [Nat.mod_eq_sub_mod (by omega), Nat.mod_eq_of_lt (by omega)]; omega
  have e2 : A.map (· + (n - (n - r))) = A.map fun p => (p + r) % n := List.map_congr_left fun a ha => by
    have := hA a ha
    rw [Nat.mod_eq_of_lt (by omega)]; omega
  rw [e1, e2]
  exact List.perm_append_comm
/-- turned back -/
theorem back_perm {n r : Nat} {A B : List Nat} (hr : r < n) (h : PlR (A ++ B) n) (hA : ∀ a ∈ A, a < r) (hB : ∀ b ∈ B, r ≤ b) : ((seen n r A B).map fun (x : Nat) => (x : Int)).Perm ((A ++ B).map fun (p : Nat) => ((p : Int) - r) % n) := by
  unfold seen
  rw [List.map_append, List.map_append, List.map_map, List.map_map]
  have e1 : B.map ((fun (x : Nat) => (x : Int)) ∘ (· - r)) = B.map fun (p : Nat) => ((p : Int) - r) % n := List.map_congr_left fun b hb => by
    have := hB b hb
    have := h.hi b (List.mem_append_right _ hb)
    simp only [Function.comp_apply]
    rw [Int.emod_eq_of_lt (by omega) (by omega)]; omega
  have e2 : A.map ((fun (x : Nat) => (x : Int)) ∘ (· + (n - r))) = A.map fun (p : Nat) => ((p : Int) - r) % n := List.map_congr_left fun a ha => by
    have := hA a ha
    simp only [Function.comp_apply]
    rw [← Int.add_emod_right, Int.emod_eq_of_lt (by omega) (by omega)]; omega
  rw [e1, e2]
  exact List.perm_append_comm
/-- all sums of a ring together -/
theorem ring_sum {qs : List Nat} (h : PlR qs ns.length) : (ringS ns qs).sum = ns.sum := by
  have hc := ring_cut h
  have hf : qs.headD 0 ≤ ns.length := by
    cases qs with
    | nil => simp
    | cons f r => exact Nat.le_of_lt (h.hi f (by simp))
  unfold ringS
  rw [M4.pcs_sum ns, M4.pcs_flat _ _ _ (List.pairwise_cons.mpr ⟨fun c hx => hc.lo c hx, hc.up⟩)]
  unfold rotN
  rw [List.drop_zero, List.sum_append, Int.add_comm, ← List.sum_append, List.take_append_drop]
end M48

set_option linter.all false
set_option Elab.async false
set_option maxRecDepth 100000
set_option maxHeartbeats 4000000
namespace L2
open PySem PySem.Spec PyProof.Rows
/-- the builtins' names are not bound -/
structure Bl (mg : Str → Option Value) : Prop where
  list : mg "list" = none
  enumerate : mg "enumerate" = none
  int : mg "int" = none
  sum : mg "sum" = none
  range : mg "range" = none
  sorted : mg "sorted" = none
  max : mg "max" = none
  min : mg "min" = none
  len : mg "len" = none
  repr : mg "repr" = none
  isinstance : mg "isinstance" = none
  zip : mg "zip" = none
  bool : mg "bool" = none
  tuple : mg "tuple" = none
  str : mg "str" = none
  dict : mg "dict" = none
  abs : mg "abs" = none
  set : mg "set" = none
theorem boot_int : bootBuiltins "int" = some (.type "int") := by decide +kernel
theorem boot_bool : bootBuiltins "bool" = some (.type "bool") := by decide +kernel
theorem boot_sum' : bootBuiltins "sum" = some (.builtin "sum") := by decide +kernel
theorem boot_max' : bootBuiltins "max" = some (.builtin "max") := by decide +kernel
theorem boot_min' : bootBuiltins "min" = some (.builtin "min") := by decide +kernel
theorem boot_len' : bootBuiltins "len" = some (.builtin "len") := by decide +kernel
theorem boot_sorted' : bootBuiltins "sorted" = some (.builtin "sorted") := by decide +kernel
theorem boot_abs' : bootBuiltins "abs" = some (.builtin "abs") := by decide +kernel
theorem boot_isinstance' : bootBuiltins "isinstance" = some (.builtin "isinstance") := by decide +kernel
/-- the draws that are left -/
def DrawsAt (H : Hp) (d : Addr) : Prop := ∃ ds : List Int, H d = some (.lst (ds.map V.int)) ∧ (∀ x ∈ ds, 0 ≤ x) ∧ ds.length ≤ 1000
theorem DrawsAt.same {H H' : Hp} {d : Addr} (s : Same H H') (x : DrawsAt H d) : DrawsAt H' d := let ⟨ds, q, z⟩ := x; ⟨ds, s _ _ q, z⟩
theorem DrawsAt.kp {H H' : Hp} {d : Addr} {S : List Addr} (s : Kp S H H') (n : d ∉ S) (x : DrawsAt H d) : DrawsAt H' d := let ⟨ds, q, z⟩ := x; ⟨ds, s _ _ n q, z⟩
theorem DrawsAt.ne {H : Hp} {d p : Addr} (x : DrawsAt H d) (hp : H p = none) : d ≠ p := let ⟨_, q, _⟩ := x; ne_of_none q hp
def sp_law_draws (K : PySem.W.Frag) : Sp := fun vs H Q _ => ∃ (a : Addr) (ns : List Int), vs = [.ref a] ∧ SqL K H a (ns.map V.int) ∧ ns.length ≤ 63 ∧ ∀ p H', H p = none → Same H H' → DrawsAt H' p → Q (.ref p) H'
def sp_law_take : Sp := fun vs H Q _ => ∃ (d : Addr) (lim : Int), vs = [.ref d, .int lim] ∧ DrawsAt H d ∧ 0 < lim ∧ ∀ g H', 0 ≤ g → g < lim → DrawsAt H' d → Kp [d] H H' → Q (.int g) H'
/-- the numbers of a row as the law draws it -/
structure RowN (ns : List Int) : Prop where
  ne : 1 ≤ ns.length
  le : ns.length ≤ 120
  nn : ∀ n ∈ ns, 0 ≤ n
  ub : ∀ n ∈ ns, n ≤ 1000000000000000
/-- the numbers of a ring as the law draws it -/
structure RowM (ns : List Int) : Prop where
  ne : 1 ≤ ns.length
  le : ns.length ≤ 120
  nn : ∀ n ∈ ns, 0 ≤ n
  ub : ∀ n ∈ ns, n ≤ 1000000000000
theorem RowM.row {ns : List Int} (h : RowM ns) : RowN ns := ⟨h.ne, h.le, h.nn, fun n hn => by have := h.ub n hn; omega⟩
def sp_law_row : Sp := fun vs H Q _ => ∃ (d : Addr) (most : Int), vs = [.ref d, .int most] ∧ DrawsAt H d ∧ 1 ≤ most ∧ most ≤ 120 ∧ ∀ (p : Addr) (ns : List Int) (H' : Hp), RowM ns → (ns.length : Int) ≤ most → DrawsAt H' d → Kp [d] H H' → H' p = some (.lst (ns.map V.int)) → p ≠ d → H p = none → Q (.ref p) H'
def sp_law_pieces : Sp := fun vs H Q _ => ∃ (d r : Addr) (ns : List Int), vs = [.ref d, .ref r] ∧ DrawsAt H d ∧ H r = some (.lst (ns.map V.int)) ∧ r ≠ d ∧ 1 ≤ ns.length ∧ ns.length ≤ 1000 ∧ ∀ (m : Nat) (H' : Hp), 1 ≤ m → m ≤ ns.length → DrawsAt H' d → Kp [d] H H' → Q (.int m) H'
end L2

namespace K
open PySem L2
def top (i : Nat) : Stmt := PySem.Challenge.pw_piecebounds_k41_whole_rings_turned.main.body.getD i (.Pass ⟨0, 0, 0, 0⟩)
end K
set_option linter.all false
set_option Elab.async false
set_option maxRecDepth 100000
set_option maxHeartbeats 4000000
namespace K
open PySem L2
section
variable {C : Addr} {P : Program} {w : World} {K : PySem.W.Frag} {mg : Str → Option Value} {base : Heap} {f : Addr} {fd : FuncData}

abbrev s_law_draws : Stmt := top 21
theorem sc_law_draws : FnScope ["script", "draws", "k", "rest", "stir", "many"] ["script"] (defScope s_law_draws) := ⟨rfl, rfl, rfl, by decide +kernel, rfl, by decide +kernel, by decide +kernel⟩
theorem l_law_draws_draws : Loc (defScope s_law_draws) "draws" := Or.inl (by kernel_rfl)
theorem l_law_draws_k : Loc (defScope s_law_draws) "k" := Or.inl (by kernel_rfl)
theorem l_law_draws_many : Loc (defScope s_law_draws) "many" := Or.inl (by kernel_rfl)
theorem l_law_draws_rest : Loc (defScope s_law_draws) "rest" := Or.inl (by kernel_rfl)
theorem l_law_draws_stir : Loc (defScope s_law_draws) "stir" := Or.inl (by kernel_rfl)
theorem v_law_draws_draws : Vis (defScope s_law_draws) "draws" := Or.inl (by kernel_rfl)
theorem v_law_draws_k : Vis (defScope s_law_draws) "k" := Or.inl (by kernel_rfl)
theorem v_law_draws_many : Vis (defScope s_law_draws) "many" := Or.inl (by kernel_rfl)
theorem v_law_draws_rest : Vis (defScope s_law_draws) "rest" := Or.inl (by kernel_rfl)
theorem v_law_draws_script : Vis (defScope s_law_draws) "script" := Or.inl (by kernel_rfl)
theorem v_law_draws_stir : Vis (defScope s_law_draws) "stir" := Or.inl (by kernel_rfl)
theorem g_law_draws_abs : (defScope s_law_draws).names.lookup ("abs" : Str) = some NameKind.globalImplicit := by kernel_rfl
theorem g_law_draws_len : (defScope s_law_draws).names.lookup ("len" : Str) = some NameKind.globalImplicit := by kernel_rfl
theorem g_law_draws_min : (defScope s_law_draws).names.lookup ("min" : Str) = some NameKind.globalImplicit := by kernel_rfl
theorem g_law_draws_range : (defScope s_law_draws).names.lookup ("range" : Str) = some NameKind.globalImplicit := by kernel_rfl
def t_law_draws {cdv : Value} {A : Around} {outer : List Env} {s : Shared} {H : Hp} {E : XK} (B : Bl mg) (hr : Room 0 (A.deeper (PyProof.Rows.envOfC "_law_draws" (defScope s_law_draws) s.heap.objs.size f cdv))) :
    { t : TS // QB (cxOf CX0 P w K mg base ["script", "draws", "k", "rest", "stir", "many"] "_law_draws" (defScope s_law_draws) f cdv A outer s H E).nox (defBody s_law_draws) t } :=
  ⟨_, (qb_cons (qs_set (i := 1) sc_law_draws.nd rfl l_law_draws_draws (.inl rfl) (qe_lst qa_nil))
    (qb_mid (qs_for PassesOwn.never rfl (qi_r1 g_law_draws_range B.range (qa_cons (qe_cB (kMin (K := K) rfl rfl) g_law_draws_min B.min boot_min' (qa_cons (qe_cB (kLen (K := K) rfl) g_law_draws_len B.len boot_len' (qa_cons (qv 0 rfl v_law_draws_script) qa_nil)) (qa_cons qe_int qa_nil))) qa_nil)) (qg_name (i := 2) sc_law_draws.nd rfl l_law_draws_k (.inl rfl)) (qb_cons (qs_set (i := 3) sc_law_draws.nd rfl l_law_draws_rest (.inl rfl) (qe_cB (callAbs) g_law_draws_abs B.abs boot_abs' (qa_cons (ke_ix (K := K) rfl (qv 0 rfl v_law_draws_script) (qv 2 rfl v_law_draws_k) (fun _ _ => rfl)) qa_nil)))
    (qb_one (qs_if (qt_cmp opLt (qv 3 rfl v_law_draws_rest) (qe_op opPow qe_int qe_int)) (qb_cons (qs_set (i := 4) sc_law_draws.nd rfl l_law_draws_stir (.inl rfl) (qe_op opMod (qe_op opMul (qe_op opMod (qe_op opAdd (qe_op opAdd (qv 3 rfl v_law_draws_rest) (qe_op opMul qe_int (qv 2 rfl v_law_draws_k))) qe_int) qe_int) qe_int) qe_int))
    (qb_cons (qs_set (i := 4) sc_law_draws.nd rfl l_law_draws_stir (.inl rfl) (qe_op opMod (qe_op opMul (qv 4 rfl v_law_draws_stir) (qv 4 rfl v_law_draws_stir)) qe_int))
    (qb_cons (qs_ex (ke_m1 (K := K) rfl PySem.F.plainAttrs_list PySem.F.slot_list_append PySem.F.type_list_append mtApp (qv 1 rfl v_law_draws_draws) (qe_op opMod (qe_op opFdiv (qv 4 rfl v_law_draws_stir) qe_int) qe_int)))
    (qb_cons (qs_ex (ke_m1 (K := K) rfl PySem.F.plainAttrs_list PySem.F.slot_list_append PySem.F.type_list_append mtApp (qv 1 rfl v_law_draws_draws) (qe_op opMod (qe_op opFdiv (qv 4 rfl v_law_draws_stir) qe_int) qe_int)))
    (qb_cons (qs_set (i := 4) sc_law_draws.nd rfl l_law_draws_stir (.inl rfl) (qe_op opMod (qe_op opAdd (qv 4 rfl v_law_draws_stir) (qe_op opMul qe_int (qe_op opAdd (qv 2 rfl v_law_draws_k) qe_int))) qe_int))
    (qb_one (qs_ex (ke_m1 (K := K) rfl PySem.F.plainAttrs_list PySem.F.slot_list_append PySem.F.type_list_append mtApp (qv 1 rfl v_law_draws_draws) (qe_op opMod (qe_op opFdiv (qe_op opMod (qe_op opMul (qv 4 rfl v_law_draws_stir) (qv 4 rfl v_law_draws_stir)) qe_int) qe_int) qe_int))))))))) (qb_cons (qs_set (i := 5) sc_law_draws.nd rfl l_law_draws_many (.inl rfl) qe_int)
    (qb_one (qs_while PassesOwn.never (QW.pt (qw_and (qt_cmp opGe (qv 3 rfl v_law_draws_rest) qe_int) (qw_and1 (qt_cmp opLt (qv 5 rfl v_law_draws_many) qe_int)))) (qb_cons (qs_ex (ke_m1 (K := K) rfl PySem.F.plainAttrs_list PySem.F.slot_list_append PySem.F.type_list_append mtApp (qv 1 rfl v_law_draws_draws) (qe_op opMod (qv 3 rfl v_law_draws_rest) qe_int)))
    (qb_cons (qs_set (i := 3) sc_law_draws.nd rfl l_law_draws_rest (.inl rfl) (qe_op opFdiv (qv 3 rfl v_law_draws_rest) qe_int))
    (qb_one (qs_set (i := 5) sc_law_draws.nd rfl l_law_draws_many (.inl rfl) (qe_op opAdd (qv 5 rfl v_law_draws_many) qe_int))))))))))))
    (qb_one (qs_ret (ke_slice (K := K) rfl (qv 1 rfl v_law_draws_draws) qo_none (qo_some qe_int))))))⟩
abbrev s_law_take : Stmt := top 22
theorem sc_law_take : FnScope ["draws", "many"] ["draws", "many"] (defScope s_law_take) := ⟨rfl, rfl, rfl, by decide +kernel, rfl, by decide +kernel, by decide +kernel⟩
theorem v_law_take_draws : Vis (defScope s_law_take) "draws" := Or.inl (by kernel_rfl)
theorem v_law_take_many : Vis (defScope s_law_take) "many" := Or.inl (by kernel_rfl)
def t_law_take {cdv : Value} {A : Around} {outer : List Env} {s : Shared} {H : Hp} {E : XK} (B : Bl mg) (hr : Room 0 (A.deeper (PyProof.Rows.envOfC "_law_take" (defScope s_law_take) s.heap.objs.size f cdv))) :
    { t : TS // QB (cxOf CX0 P w K mg base ["draws", "many"] "_law_take" (defScope s_law_take) f cdv A outer s H E).nox (defBody s_law_take) t } :=
  ⟨_, (qb_cons (qs_if (qt_cmp (kEqG (K := K) rfl hr) (qv 0 rfl v_law_take_draws) (qe_lst qa_nil)) (qb_one (qs_ret qe_int)) qb_nil)
    (qb_one (qs_ret (qe_op opMod (ke_m1 (K := K) rfl PySem.F.plainAttrs_list PySem.F.slot_list_pop PySem.F.type_list_pop mtPopAt (qv 0 rfl v_law_take_draws) qe_int) (qv 1 rfl v_law_take_many)))))⟩
theorem cutV_ints (ns : List Int) (lo hi : Option Int) : cutV (ns.map V.int) lo hi = ((ns.drop (HT.sIx ns.length 0 lo)).take (HT.sIx ns.length ns.length hi - HT.sIx ns.length 0 lo)).map V.int := by
  unfold cutV
  rw [List.length_map, List.map_take, List.map_drop]
theorem mod_nn (x : Int) {y : Int} (h : 0 < y) : 0 ≤ x % y := Int.emod_nonneg _ (by omega)
/-- draws under way -/
def MoreAt (H : Hp) (d : Addr) (n : Nat) : Prop := ∃ ds : List Int, H d = some (.lst (ds.map V.int)) ∧ (∀ x ∈ ds, 0 ≤ x) ∧ ds.length ≤ n
theorem more_app {H : Hp} {d : Addr} {n : Nat} {z : Int} {Q : VK} (h : MoreAt H d n) (hn : n < 50000) (hz : 0 ≤ z) (q : ∀ H', Kp [d] H H' → MoreAt H' d (n + 1) → Q .non H') : hApp d (.int z) H Q := by
  obtain ⟨ds, e, h0, hl⟩ := h
  refine i_appI e (by omega) fun H' k e' => q H' k ⟨ds ++ [z], e', fun x hx => ?_, by simp; omega⟩
  rcases List.mem_append.mp hx with hx | hx
  · exact h0 x hx
  · have : x = z := by simpa using hx
    subst this; exact hz
theorem more_ty {K : PySem.W.Frag} {H : Hp} {d : Addr} {n : Nat} (h : MoreAt H d n) : tyV K "list" (.ref d) H := let ⟨_, e, _⟩ := h; i_tyL e
theorem MoreAt.le {H : Hp} {d : Addr} {n m : Nat} (h : MoreAt H d n) (l : n ≤ m) : MoreAt H d m := let ⟨ds, e, a, b⟩ := h; ⟨ds, e, a, by omega⟩
theorem ok_law_draws (B : Bl mg) (F : Fun K "_law_draws" "_law_draws" s_law_draws f fd) : FnOk P w K mg base CX0 1 f fd ["script"] (sp_law_draws K) := by
  refine F.okq sc_law_draws (fun vs H Q E h => ?_) (fun cdv A outer s H vs Q E hr h => ?_)
  · obtain ⟨a, ns, rfl, _⟩ := h; rfl
  obtain ⟨a, ns, rfl, hS, h63, q⟩ := h
  refine ⟨t_law_draws B  hr, ?_⟩
  refine i_newL (by show 0 ≤ sizeLine; decide) fun d H1 hd s1 e1 => ?_
  refine ⟨fun σ H' => Same H H' ∧ MoreAt H' d 5000 ∧ ∃ o2 o3 o4 o5, σ = [some (.ref a), some (.ref d), o2, o3, o4, o5], ?_, ?_⟩
  · refine i_len (.inl (s1.seq hS)) ?_
    rw [List.length_map]
    refine ⟨⟨by omega, by omega⟩, for_range (fun i σ H' => Same H H' ∧ MoreAt H' d (60 * i) ∧ ∃ o2 o3 o4 o5, σ = [some (.ref a), some (.ref d), o2, o3, o4, o5]) ?_ ?_ ?_⟩
    · exact ⟨s1, ⟨[], e1, by simp, by simp⟩, _, _, _, _, rfl⟩
    · rintro i σ H2 hi ⟨s2, m2, o2, o3, o4, o5, rfl⟩
      have hi' : i < ns.length := by omega
      have hx : (ns.map V.int)[i]? = some (.int ns[i]) := by rw [List.getElem?_map, List.getElem?_eq_getElem hi']; rfl
      refine i_ix (.inl (s2.seq hS)) (v := .int ns[i]) (by rw [show (0 + (i : Int)) = ((i : Nat) : Int) by omega]; exact atI_nat hx) ?_
      have hab : 0 ≤ (if ns[i] < 0 then -ns[i] else ns[i]) := by split <;> omega
      refine ⟨⟨by decide, by decide, by decide⟩, dec2 (fun c => ?_) (fun c => ?_)⟩
      · refine ⟨.inl ⟨by decide, by decide⟩, by decide, .inr ⟨by decide, by decide⟩, by decide, ?_⟩
        have b1 := Int.emod_lt_of_pos (((if ns[i] < 0 then -ns[i] else ns[i]) + 7919 * (0 + (i : Int)) + 3) % 2147483647 * 48271) (show (0 : Int) < 2147483647 by decide)
        have b0 := mod_nn (((if ns[i] < 0 then -ns[i] else ns[i]) + 7919 * (0 + (i : Int)) + 3) % 2147483647 * 48271) (show (0 : Int) < 2147483647 by decide)
        generalize ((if ns[i] < 0 then -ns[i] else ns[i]) + 7919 * (0 + (i : Int)) + 3) % 2147483647 * 48271 % 2147483647 = st at b1 b0
        refine ⟨.inl ⟨by omega, by omega⟩, by decide, ?_⟩
        have c1 := Int.emod_lt_of_pos (st * st) (show (0 : Int) < 2147483629 by decide)
        have c0 := mod_nn (st * st) (show (0 : Int) < 2147483629 by decide)
        generalize st * st % 2147483629 = st at c1 c0
        refine ⟨more_ty m2, ⟨by decide, by decide⟩, by decide, more_app m2 (by omega) (mod_nn _ (by decide)) fun H3 k3 m3 => ?_⟩
        refine ⟨more_ty m3, ⟨by decide, by decide⟩, by decide, more_app m3 (by omega) (mod_nn _ (by decide)) fun H4 k4 m4 => ?_⟩
        refine ⟨.inl ⟨by decide, by decide⟩, by decide, ?_⟩
        have d1 := Int.emod_lt_of_pos (st + 40692 * (0 + (i : Int) + 7)) (show (0 : Int) < 2147483587 by decide)
        have d0 := mod_nn (st + 40692 * (0 + (i : Int) + 7)) (show (0 : Int) < 2147483587 by decide)
        generalize (st + 40692 * (0 + (i : Int) + 7)) % 2147483587 = st at d1 d0
        refine ⟨more_ty m4, .inl ⟨by omega, by omega⟩, by decide, ⟨by decide, by decide⟩, by decide, more_app m4 (by omega) (mod_nn _ (by decide)) fun H5 k5 m5 => ?_⟩
        exact ⟨((s2.new k3 hd).new k4 hd).new k5 hd, m5.le (by omega), _, _, _, _, rfl⟩
      · refine while_m (fun mm σ H' => Same H H' ∧ ∃ (rest : Int) (many : Nat), 0 ≤ rest ∧ many ≤ 60 ∧ mm = 60 - many ∧ MoreAt H' d (60 * i + many) ∧ σ = [some (.ref a), some (.ref d), some (.int (0 + (i : Int))), some (.int rest), o4, some (.int many)]) 60 ⟨s2, (if ns[i] < 0 then -ns[i] else ns[i]), 0, hab, by omega, rfl, m2, rfl⟩ ?_
        rintro mm σ H3 ⟨s3, rest, many, hr0, hm60, hmm, m3, rfl⟩
        refine dec2 (fun c1 => dec2 (fun c2 => ?_) (fun c2 => ?_)) (fun c1 => bF ?_)
        · refine ⟨more_ty m3, by decide, more_app m3 (by omega) (mod_nn _ (by decide)) fun H4 k4 m4 => ?_⟩
          refine ⟨⟨by decide, by decide⟩, ?_⟩
          refine ⟨60 - (many + 1), by omega, s3.new k4 hd, rest / 1000, many + 1, by omega, by omega, rfl, m4, rfl⟩
        · exact ⟨s3, m3.le (by omega), _, _, _, _, rfl⟩
        · exact ⟨s3, m3.le (by omega), _, _, _, _, rfl⟩
    · rintro σ H' ⟨h1, h2, o⟩
      refine ⟨h1, h2.le ?_, o⟩
      omega
  · rintro σ H' ⟨s', ⟨ds, e, h0, hl⟩, o2, o3, o4, o5, rfl⟩
    refine i_sl (SqL.of e) fun p H2 hp s2 e2 => ?_
    rw [cutV_ints] at e2
    refine q p H2 (s'.free hp) (s'.trans s2) ⟨_, e2, fun x hx => h0 x (List.mem_of_mem_drop (List.mem_of_mem_take hx)), ?_⟩
    have e240 : HT.sIx ds.length ds.length (some 240) = min 240 ds.length := HT.sIx_nat ..
    rw [List.length_take, e240]; omega
theorem ok_law_take (B : Bl mg) (F : Fun K "_law_take" "_law_take" s_law_take f fd) : FnOk P w K mg base CX0 1 f fd ["draws", "many"] sp_law_take := by
  refine F.okq sc_law_take (fun vs H Q E h => ?_) (fun cdv A outer s H vs Q E hr h => ?_)
  · obtain ⟨d, lim, rfl, _⟩ := h; rfl
  obtain ⟨d, lim, rfl, ⟨ds, e, h0, hl⟩, l0, q⟩ := h
  refine ⟨t_law_take B  hr, ?_⟩
  refine i_newL (by show 0 ≤ sizeLine; decide) fun p H1 hp s1 e1 => ?_
  refine i_eqI (ns := ds) (ms := []) (SqL.of (s1 _ _ e)) (SqL.of e1) (dec2 (fun c => ?_) (fun c => ?_))
  · exact q 0 H1 (by omega) l0 ⟨ds, s1 _ _ e, h0, hl⟩ s1.kp
  · cases ds with
    | nil => exact absurd rfl c
    | cons x ds =>
    refine ⟨i_tyL (s1 _ _ e), i_popAt 0 (s1 _ _ e) rfl (by decide) rfl fun H2 k2 e2 => ⟨l0, ?_⟩⟩
    refine q _ H2 (mod_nn _ l0) (Int.emod_lt_of_pos _ l0) ⟨ds, e2, fun y hy => h0 y (List.mem_cons_of_mem _ hy), by simp at hl; omega⟩ (s1.kp.trans k2)

end
end K

set_option linter.all false
set_option Elab.async false
set_option maxRecDepth 100000
set_option maxHeartbeats 4000000
namespace K
open PySem L2
section
variable {C : Addr} {P : Program} {w : World} {K : PySem.W.Frag} {mg : Str → Option Value} {base : Heap} {f : Addr} {fd : FuncData}

abbrev s_law_row : Stmt := top 23
theorem sc_law_row : FnScope ["draws", "most", "many", "bases", "base", "mixed", "one", "other", "third", "free", "likes", "found", "k", "at", "turn", "number", "shape"] ["draws", "most"] (defScope s_law_row) := ⟨rfl, rfl, rfl, by decide +kernel, rfl, by decide +kernel, by decide +kernel⟩
theorem l_law_row_at : Loc (defScope s_law_row) "at" := Or.inl (by kernel_rfl)
theorem l_law_row_base : Loc (defScope s_law_row) "base" := Or.inl (by kernel_rfl)
theorem l_law_row_bases : Loc (defScope s_law_row) "bases" := Or.inl (by kernel_rfl)
theorem l_law_row_found : Loc (defScope s_law_row) "found" := Or.inr (by kernel_rfl)
theorem l_law_row_free : Loc (defScope s_law_row) "free" := Or.inl (by kernel_rfl)
theorem l_law_row_k : Loc (defScope s_law_row) "k" := Or.inl (by kernel_rfl)
theorem l_law_row_likes : Loc (defScope s_law_row) "likes" := Or.inl (by kernel_rfl)
theorem l_law_row_many : Loc (defScope s_law_row) "many" := Or.inl (by kernel_rfl)
theorem l_law_row_mixed : Loc (defScope s_law_row) "mixed" := Or.inl (by kernel_rfl)
theorem l_law_row_number : Loc (defScope s_law_row) "number" := Or.inl (by kernel_rfl)
theorem l_law_row_one : Loc (defScope s_law_row) "one" := Or.inl (by kernel_rfl)
theorem l_law_row_other : Loc (defScope s_law_row) "other" := Or.inl (by kernel_rfl)
theorem l_law_row_shape : Loc (defScope s_law_row) "shape" := Or.inl (by kernel_rfl)
theorem l_law_row_third : Loc (defScope s_law_row) "third" := Or.inl (by kernel_rfl)
theorem l_law_row_turn : Loc (defScope s_law_row) "turn" := Or.inl (by kernel_rfl)
theorem v_law_row_at : Vis (defScope s_law_row) "at" := Or.inl (by kernel_rfl)
theorem v_law_row_base : Vis (defScope s_law_row) "base" := Or.inl (by kernel_rfl)
theorem v_law_row_bases : Vis (defScope s_law_row) "bases" := Or.inl (by kernel_rfl)
theorem v_law_row_draws : Vis (defScope s_law_row) "draws" := Or.inl (by kernel_rfl)
theorem v_law_row_found : Vis (defScope s_law_row) "found" := Or.inr (Or.inl (by kernel_rfl))
theorem v_law_row_free : Vis (defScope s_law_row) "free" := Or.inl (by kernel_rfl)
theorem v_law_row_k : Vis (defScope s_law_row) "k" := Or.inl (by kernel_rfl)
theorem v_law_row_likes : Vis (defScope s_law_row) "likes" := Or.inl (by kernel_rfl)
theorem v_law_row_many : Vis (defScope s_law_row) "many" := Or.inl (by kernel_rfl)
theorem v_law_row_mixed : Vis (defScope s_law_row) "mixed" := Or.inl (by kernel_rfl)
theorem v_law_row_most : Vis (defScope s_law_row) "most" := Or.inl (by kernel_rfl)
theorem v_law_row_number : Vis (defScope s_law_row) "number" := Or.inl (by kernel_rfl)
theorem v_law_row_one : Vis (defScope s_law_row) "one" := Or.inl (by kernel_rfl)
theorem v_law_row_other : Vis (defScope s_law_row) "other" := Or.inl (by kernel_rfl)
theorem v_law_row_shape : Vis (defScope s_law_row) "shape" := Or.inl (by kernel_rfl)
theorem v_law_row_third : Vis (defScope s_law_row) "third" := Or.inl (by kernel_rfl)
theorem v_law_row_turn : Vis (defScope s_law_row) "turn" := Or.inl (by kernel_rfl)
theorem g_law_row__law_take : (defScope s_law_row).names.lookup ("_law_take" : Str) = some NameKind.globalImplicit := by kernel_rfl
theorem g_law_row_int : (defScope s_law_row).names.lookup ("int" : Str) = some NameKind.globalImplicit := by kernel_rfl
theorem g_law_row_len : (defScope s_law_row).names.lookup ("len" : Str) = some NameKind.globalImplicit := by kernel_rfl
theorem g_law_row_min : (defScope s_law_row).names.lookup ("min" : Str) = some NameKind.globalImplicit := by kernel_rfl
theorem g_law_row_range : (defScope s_law_row).names.lookup ("range" : Str) = some NameKind.globalImplicit := by kernel_rfl
theorem g_law_row_sorted : (defScope s_law_row).names.lookup ("sorted" : Str) = some NameKind.globalImplicit := by kernel_rfl
def t_law_row {cdv : Value} {A : Around} {outer : List Env} {s : Shared} {H : Hp} {E : XK} (B : Bl mg) (D_law_take : Def P w K mg base 1 "_law_take" ["draws", "many"] sp_law_take) (hr : Room 1 (A.deeper (PyProof.Rows.envOfC "_law_row" (defScope s_law_row) s.heap.objs.size f cdv))) :
    { t : TS // QB (cxOf CX0 P w K mg base ["draws", "most", "many", "bases", "base", "mixed", "one", "other", "third", "free", "likes", "found", "k", "at", "turn", "number", "shape"] "_law_row" (defScope s_law_row) f cdv A outer s H E).nox (defBody s_law_row) t } :=
  ⟨_, (qb_cons (qs_set (i := 2) sc_law_row.nd rfl l_law_row_many (.inl rfl) (qe_cB (kMin (K := K) rfl rfl) g_law_row_min B.min boot_min' (qa_cons (qv 1 rfl v_law_row_most) (qa_cons (qe_op opAdd qe_int (qe_def D_law_take hr (by decide) g_law_row__law_take (qa_cons (qv 0 rfl v_law_row_draws) (qa_cons qe_int qa_nil)))) qa_nil))))
    (qb_mid (qs_if (qt_cmp (kEqG (K := K) rfl hr) (qe_def D_law_take hr (by decide) g_law_row__law_take (qa_cons (qv 0 rfl v_law_row_draws) (qa_cons qe_int qa_nil))) qe_int) (qb_one (qs_set (i := 2) sc_law_row.nd rfl l_law_row_many (.inl rfl) (ke_ix (K := K) rfl (qe_lst (qa_cons (qv 1 rfl v_law_row_most) (qa_cons (qe_op opAdd qe_int (qe_def D_law_take hr (by decide) g_law_row__law_take (qa_cons (qv 0 rfl v_law_row_draws) (qa_cons (qv 1 rfl v_law_row_most) qa_nil)))) qa_nil))) (qe_def D_law_take hr (by decide) g_law_row__law_take (qa_cons (qv 0 rfl v_law_row_draws) (qa_cons qe_int qa_nil))) (fun _ _ => rfl)))) qb_nil)
    (qb_cons (qs_set (i := 3) sc_law_row.nd rfl l_law_row_bases (.inl rfl) (qe_lst (qa_cons qe_int (qa_cons qe_int (qa_cons qe_int (qa_cons qe_int (qa_cons qe_int (qa_cons (qe_op opPow qe_int qe_int) (qa_cons (qe_op opPow qe_int qe_int) (qa_cons (qe_op opAdd (qe_op opPow qe_int qe_int) qe_int) qa_nil))))))))))
    (qb_cons (qs_set (i := 4) sc_law_row.nd rfl l_law_row_base (.inl rfl) (ke_ix (K := K) rfl (qv 3 rfl v_law_row_bases) (qe_def D_law_take hr (by decide) g_law_row__law_take (qa_cons (qv 0 rfl v_law_row_draws) (qa_cons qe_int qa_nil))) (fun _ _ => rfl)))
    (qb_cons (qs_set (i := 5) sc_law_row.nd rfl l_law_row_mixed (.inl rfl) (qe_cmp (kEqG (K := K) rfl hr) (qe_def D_law_take hr (by decide) g_law_row__law_take (qa_cons (qv 0 rfl v_law_row_draws) (qa_cons qe_int qa_nil))) qe_int))
    (qb_cons (qs_set (i := 6) sc_law_row.nd rfl l_law_row_one (.inl rfl) (qe_def D_law_take hr (by decide) g_law_row__law_take (qa_cons (qv 0 rfl v_law_row_draws) (qa_cons qe_int qa_nil))))
    (qb_cons (qs_set (i := 7) sc_law_row.nd rfl l_law_row_other (.inl rfl) (qe_op opAdd qe_int (qe_def D_law_take hr (by decide) g_law_row__law_take (qa_cons (qv 0 rfl v_law_row_draws) (qa_cons qe_int qa_nil)))))
    (qb_cons (qs_set (i := 8) sc_law_row.nd rfl l_law_row_third (.inl rfl) (qe_def D_law_take hr (by decide) g_law_row__law_take (qa_cons (qv 0 rfl v_law_row_draws) (qa_cons qe_int qa_nil))))
    (qb_cons (qs_set (i := 9) sc_law_row.nd rfl l_law_row_free (.inl rfl) (qe_cmp (kEqG (K := K) rfl hr) (qe_def D_law_take hr (by decide) g_law_row__law_take (qa_cons (qv 0 rfl v_law_row_draws) (qa_cons qe_int qa_nil))) qe_int))
    (qb_cons (qs_set (i := 10) sc_law_row.nd rfl l_law_row_likes (.inl rfl) (ke_ix (K := K) rfl (qe_lst (qa_cons qe_int (qa_cons qe_int (qa_cons (qe_op opAdd qe_int (qe_def D_law_take hr (by decide) g_law_row__law_take (qa_cons (qv 0 rfl v_law_row_draws) (qa_cons qe_int qa_nil)))) qa_nil)))) (qe_def D_law_take hr (by decide) g_law_row__law_take (qa_cons (qv 0 rfl v_law_row_draws) (qa_cons qe_int qa_nil))) (fun _ _ => rfl)))
    (qb_cons (qs_set (i := 11) sc_law_row.nd rfl l_law_row_found (.inl rfl) (qe_lst qa_nil))
    (qb_mid (qs_for PassesOwn.never rfl (qi_r1 g_law_row_range B.range (qa_cons (qv 2 rfl v_law_row_many) qa_nil)) (qg_name (i := 12) sc_law_row.nd rfl l_law_row_k (.inl rfl)) (qb_cons (qs_set (i := 13) sc_law_row.nd rfl l_law_row_at (.inl rfl) (qe_op opFdiv (qv 12 rfl v_law_row_k) (qv 10 rfl v_law_row_likes)))
    (qb_cons (qs_set (i := 14) sc_law_row.nd rfl l_law_row_turn (.inl rfl) (qe_op opMod (qe_op opAdd (qe_op opAdd (qe_op opAdd (qe_op opMul (qe_op opMul (qv 13 rfl v_law_row_at) (qv 13 rfl v_law_row_at)) (qv 6 rfl v_law_row_one)) (qe_op opMul (qv 13 rfl v_law_row_at) (qv 7 rfl v_law_row_other))) (qe_op opMul (qe_op opFdiv (qv 13 rfl v_law_row_at) qe_int) qe_int)) (qv 8 rfl v_law_row_third)) qe_int))
    (qb_mid (qs_if (kt_val (K := K) rfl (qv 5 rfl v_law_row_mixed)) (qb_one (qs_set (i := 4) sc_law_row.nd rfl l_law_row_base (.inl rfl) (ke_ix (K := K) rfl (qv 3 rfl v_law_row_bases) (qe_op opMod (qe_op opAdd (qv 14 rfl v_law_row_turn) (qe_op opMul (qv 13 rfl v_law_row_at) (qv 13 rfl v_law_row_at))) qe_int) (fun _ _ => rfl)))) qb_nil)
    (qb_mid (qs_if (QW.pt (qw_or (qt_cmp opLt (qv 2 rfl v_law_row_many) qe_int) (qw_or1 (QW.pt (qw_and (kt_val (K := K) rfl (qv 9 rfl v_law_row_free)) (qw_and1 (qt_cmp opGt (qe_cB (kLen (K := K) rfl) g_law_row_len B.len boot_len' (qa_cons (qv 0 rfl v_law_row_draws) qa_nil)) qe_int))))))) (qb_one (qs_set (i := 14) sc_law_row.nd rfl l_law_row_turn (.inl rfl) (qe_def D_law_take hr (by decide) g_law_row__law_take (qa_cons (qv 0 rfl v_law_row_draws) (qa_cons qe_int qa_nil))))) qb_nil)
    (qb_cons (qs_set (i := 15) sc_law_row.nd rfl l_law_row_number (.inl rfl) (ke_ix (K := K) rfl (qe_lst (qa_cons (qe_op opMod (qv 14 rfl v_law_row_turn) (qv 4 rfl v_law_row_base)) (qa_cons (qe_op opAdd (qe_op opMul (qv 14 rfl v_law_row_turn) (qe_op opFdiv (qv 4 rfl v_law_row_base) qe_int)) (qe_op opMod (qv 14 rfl v_law_row_turn) qe_int)) qa_nil))) (qe_cT callInt g_law_row_int B.int boot_int (qa_cons (qe_cmp opGt (qv 4 rfl v_law_row_base) qe_int) qa_nil)) (fun _ _ => rfl)))
    (qb_one (qs_ex (ke_m1 (K := K) rfl PySem.F.plainAttrs_list PySem.F.slot_list_append PySem.F.type_list_append mtApp (qv 11 rfl v_law_row_found) (ke_ix (K := K) rfl (qe_lst (qa_cons (qv 15 rfl v_law_row_number) (qa_cons (qe_op opPow qe_int qe_int) qa_nil))) (qe_cT callInt g_law_row_int B.int boot_int (qa_cons (ke_and (K := K) rfl (qe_cmp opGt (qv 4 rfl v_law_row_base) (qe_op opPow qe_int qe_int)) (qe_one (qe_cmp (kEqG (K := K) rfl hr) (qe_op opMod (qv 14 rfl v_law_row_turn) qe_int) qe_int))) qa_nil)) (fun _ _ => rfl)))))))))))
    (qb_cons (qs_set (i := 16) sc_law_row.nd rfl l_law_row_shape (.inl rfl) (qe_def D_law_take hr (by decide) g_law_row__law_take (qa_cons (qv 0 rfl v_law_row_draws) (qa_cons qe_int qa_nil))))
    (qb_cons (qs_if (qt_cmp (kEqG (K := K) rfl hr) (qv 16 rfl v_law_row_shape) qe_int) (qb_one (qs_ret (qe_cB (kSorted (K := K) rfl) g_law_row_sorted B.sorted boot_sorted' (qa_cons (qv 11 rfl v_law_row_found) qa_nil)))) qb_nil)
    (qb_cons (qs_if (qt_cmp (kEqG (K := K) rfl hr) (qv 16 rfl v_law_row_shape) qe_int) (qb_one (qs_ret (qe_rev (K := K) rfl (qe_cB (kSorted (K := K) rfl) g_law_row_sorted B.sorted boot_sorted' (qa_cons (qv 11 rfl v_law_row_found) qa_nil)) (qo_some (qe_un unNeg qe_int))))) qb_nil)
    (qb_cons (qs_if (qt_cmp (kEqG (K := K) rfl hr) (qv 16 rfl v_law_row_shape) qe_int) (qb_one (qs_ret (qe_cp ["number", "found"] [none, some 11] rfl (ki_list (K := K) rfl (qv 11 rfl v_law_row_found)) (fun _ _ _ _ _ _ => (qg_name (i := 0) (show (["number", "found"] : List Str).Nodup by decide +kernel) rfl (by first | exact Or.inl rfl | exact Or.inr rfl) (by first | exact .inl rfl | exact .inr rfl))) (fun _ _ _ _ _ _ => qif_nil) (fun _ _ _ _ _ _ => (ke_ix (K := K) rfl (qe_lst (qa_cons qe_int (qa_cons (qv 0 rfl (by first | exact Or.inl rfl | exact Or.inr (Or.inl rfl) | exact Or.inr (Or.inr rfl))) qa_nil))) (qe_cT callInt rfl B.int boot_int (qa_cons (qe_cmp (kEqG (K := K) rfl hr) (qv 0 rfl (by first | exact Or.inl rfl | exact Or.inr (Or.inl rfl) | exact Or.inr (Or.inr rfl))) (qe_cB (kMax (K := K) rfl rfl) rfl B.max boot_max' (qa_cons (qv 1 rfl (by first | exact Or.inl rfl | exact Or.inr (Or.inl rfl) | exact Or.inr (Or.inr rfl))) qa_nil))) qa_nil)) (fun _ _ => rfl)))))) qb_nil)
    (qb_one (qs_ret (qv 11 rfl v_law_row_found)))))))))))))))))))⟩
theorem atInts {ns : List Int} {g : Int} (h0 : 0 ≤ g) (h1 : g < ns.length) : ns.getD g.toNat 0 ∈ ns := by
  have hk : g.toNat < ns.length := by omega
  rw [List.getD_eq_getElem?_getD, List.getElem?_eq_getElem hk]
  exact List.getElem_mem hk
theorem at2 {x y : V} {g : Int} (h0 : 0 ≤ g) (h1 : g < 2) : atI [x, y] g = some (if g = 0 then x else y) := by
  have : g = 0 ∨ g = 1 := by omega
  rcases this with rfl | rfl <;> rfl
theorem at3 {x y z : V} {g : Int} (h0 : 0 ≤ g) (h1 : g < 3) : atI [x, y, z] g = some (if g = 0 then x else if g = 1 then y else z) := by
  have : g = 0 ∨ g = 1 ∨ g = 2 := by omega
  rcases this with rfl | rfl | rfl <;> rfl
def bsL : List Int := [1, 2, 3, 10, 100, 10 ^ Int.toNat 5, 10 ^ Int.toNat 9, 10 ^ Int.toNat 12 + 1]
theorem bsL_ok : ∀ z ∈ bsL, 1 ≤ z ∧ z ≤ 1000000000001 := by decide
theorem bsL_at {g : Int} (h0 : 0 ≤ g) (h1 : g < 8) : 1 ≤ bsL.getD g.toNat 0 ∧ bsL.getD g.toNat 0 ≤ 1000000000001 := bsL_ok _ (atInts h0 h1)
theorem num_ok {turn base : Int} (t0 : 0 ≤ turn) (t1 : turn < 9973) (b0 : 1 ≤ base) (b1 : base ≤ 1000000000001) : (0 ≤ turn % base ∧ (¬ 1000 < base → turn % base ≤ 1000)) ∧ 0 ≤ turn * (base / 9973) + turn % 7 ∧ turn * (base / 9973) + turn % 7 ≤ 1000000000000 := by
  have q0 : 0 ≤ base / 9973 := by omega
  have q1 : base / 9973 ≤ 100270731 := by omega
  have m0 : 0 ≤ turn * (base / 9973) := Int.mul_nonneg t0 q0
  have m1 : turn * (base / 9973) ≤ 9972 * 100270731 := Int.mul_le_mul (by omega) q1 q0 (by decide)
  have h7 : 0 ≤ turn % 7 ∧ turn % 7 < 7 := by omega
  have e1 := Int.emod_nonneg turn (show base ≠ 0 by omega)
  have e2 := Int.emod_lt_of_pos turn (show 0 < base by omega)
  refine ⟨⟨e1, fun h => by omega⟩, by omega, by omega⟩
theorem ok_law_row (B : Bl mg) (D_law_take : Def P w K mg base 1 "_law_take" ["draws", "many"] sp_law_take) (F : Fun K "_law_row" "_law_row" s_law_row f fd) : FnOk P w K mg base CX0 2 f fd ["draws", "most"] sp_law_row := by
  refine F.okq sc_law_row (fun vs H Q E h => ?_) (fun cdv A outer s H vs Q E hr h => ?_)
  · obtain ⟨d, most, rfl, _⟩ := h; rfl
  obtain ⟨d, most, rfl, hd, m1, m2, q⟩ := h
  refine ⟨t_law_row B D_law_take hr, ?_⟩
  refine ⟨d, 12, rfl, hd, by decide, fun g1 H1 g10 g11 hd1 k1 => ?_⟩
  refine ⟨fun σ H' => ∃ many : Int, 1 ≤ many ∧ many ≤ most ∧ DrawsAt H' d ∧ Kp [d] H H' ∧ σ = [some (.ref d), some (.int most), some (.int many), none, none, none, none, none, none, none, none, none, none, none, none, none, none], ?_, ?_⟩
  · refine ⟨d, 8, rfl, hd1, by decide, fun g2 H2 g20 g21 hd2 k2 => dec2 (fun c => ?_) (fun c => ?_)⟩
    · refine ⟨d, most, rfl, hd2, by omega, fun g3 H3 g30 g31 hd3 k3 => ?_⟩
      refine i_newL (by show 2 ≤ sizeLine; decide) fun p4 H4 hp4 s4 e4 => ?_
      refine ⟨d, 2, rfl, hd3.same s4, by decide, fun g5 H5 g50 g51 hd5 k5 => ?_⟩
      have n4 : p4 ≠ d := (hd3.ne hp4).symm
      refine i_ix (.inl (SqL.of (k5.one n4 e4))) (at2 g50 g51) ?_
      refine ⟨if g5 = 0 then most else 1 + g3, by split <;> omega, by split <;> omega, hd5, ((k1.trans k2).trans k3).trans (s4.kp.trans k5), ?_⟩
      by_cases z : g5 = 0
      · rw [if_pos z, if_pos z]; rfl
      · rw [if_neg z, if_neg z]; rfl
    · exact ⟨min most (1 + g1), by omega, by omega, hd2, k1.trans k2, rfl⟩
  rintro σ H2 ⟨many, mn1, mn2, hd2, k2, rfl⟩
  refine ⟨⟨by decide, by decide, by decide⟩, ⟨by decide, by decide, by decide⟩, ⟨by decide, by decide, by decide⟩, ?_⟩
  refine i_newL (by show 8 ≤ sizeLine; decide) fun bs H3 hbs s3 e3 => ?_
  have nbs : bs ≠ d := (hd2.ne hbs).symm
  have e3' : H3 bs = some (.lst (bsL.map V.int)) := e3
  refine ⟨d, 8, rfl, hd2.same s3, by decide, fun g4 H4 g40 g41 hd4 k4 => ?_⟩
  refine i_ixI (k4.one nbs e3') g40 g41 ?_
  have bb0 := bsL_at g40 g41
  generalize hb0 : bsL.getD g4.toNat 0 = b0 at bb0
  have k34 : Kp [d] H H4 := (k2.same s3).trans k4
  have eb4 := k4.one nbs e3'
  refine ⟨d, 4, rfl, hd4, by decide, fun g5 H5 g50 g51 hd5 k5 => ?_⟩
  refine ⟨d, 1000, rfl, hd5, by decide, fun one H6 on0 on1 hd6 k6 => ?_⟩
  refine ⟨d, 1000, rfl, hd6, by decide, fun ot H7 ot0 ot1 hd7 k7 => ?_⟩
  refine ⟨d, 1000, rfl, hd7, by decide, fun th H8 th0 th1 hd8 k8 => ?_⟩
  refine ⟨d, 3, rfl, hd8, by decide, fun fr H9 fr0 fr1 hd9 k9 => ?_⟩
  refine ⟨d, 20, rfl, hd9, by decide, fun lk H10 lk0 lk1 hd10 k10 => ?_⟩
  refine i_newL (by show 3 ≤ sizeLine; decide) fun p11 H11 hp11 s11 e11 => ?_
  refine ⟨d, 3, rfl, hd10.same s11, by decide, fun g12 H12 g120 g121 hd12 k12 => ?_⟩
  have n11 : p11 ≠ d := (hd10.ne hp11).symm
  have hlk : ∃ l : Int, (if g12 = 0 then V.int 1 else if g12 = 1 then V.int 1 else V.int (1 + lk)) = V.int l ∧ 1 ≤ l ∧ l ≤ 20 := by
    by_cases z : g12 = 0
    · exact ⟨1, by rw [if_pos z], by decide, by decide⟩
    · by_cases z1 : g12 = 1
      · exact ⟨1, by rw [if_neg z, if_pos z1], by decide, by decide⟩
      · exact ⟨1 + lk, by rw [if_neg z, if_neg z1], by omega, by omega⟩
  obtain ⟨likes, el, l0, l1⟩ := hlk
  refine i_ix (.inl (SqL.of (k12.one n11 e11))) ((at3 g120 g121).trans (congrArg some el)) ?_
  have kA : Kp [d] H4 H10 := ((((k5.trans k6).trans k7).trans k8).trans k9).trans k10
  have kB : Kp [d] H4 H12 := (kA.same s11).trans k12
  have k12' : Kp [d] H H12 := k34.trans kB
  have eb12 := kB.one nbs eb4
  generalize hmx : decide (g5 = 1) = mixed
  generalize hfr : decide (fr = 1) = free
  refine i_newL (by show 0 ≤ sizeLine; decide) fun fo H13 hfo s13 e13 => ?_
  have nfo : fo ≠ d := (hd12.ne hfo).symm
  have nfb : bs ≠ fo := ne_of_none eb12 hfo
  have hfo0 : H fo = none := k12'.free (by simpa using nfo) hfo
  refine ⟨fun σ H' => ∃ (base : Int) (ns : List Int) (o12 o13 o14 o15 : Option V), (ns.length : Int) = many ∧ (∀ z ∈ ns, 0 ≤ z ∧ z ≤ 1000000000000) ∧ DrawsAt H' d ∧ Kp [d] H H' ∧ H' fo = some (.lst (ns.map V.int)) ∧ σ = [some (.ref d), some (.int most), some (.int many), some (.ref bs), some (.int base), some (.bl mixed), some (.int one), some (.int (1 + ot)), some (.int th), some (.bl free), some (.int likes), some (.ref fo), o12, o13, o14, o15, none], ?_, ?_⟩
  · refine ⟨⟨by omega, by omega⟩, for_range (fun i σ H' => ∃ (base : Int) (ns : List Int) (o12 o13 o14 o15 : Option V), 1 ≤ base ∧ base ≤ 1000000000001 ∧ ns.length = i ∧ (∀ z ∈ ns, 0 ≤ z ∧ z ≤ 1000000000000) ∧ DrawsAt H' d ∧ Kp [d] H H' ∧ H' bs = some (.lst (bsL.map V.int)) ∧ H' fo = some (.lst (ns.map V.int)) ∧ σ = [some (.ref d), some (.int most), some (.int many), some (.ref bs), some (.int base), some (.bl mixed), some (.int one), some (.int (1 + ot)), some (.int th), some (.bl free), some (.int likes), some (.ref fo), o12, o13, o14, o15, none]) ?_ ?_ ?_⟩
    · exact ⟨b0, [], _, _, _, _, bb0.1, bb0.2, rfl, by simp, hd12.same s13, k12'.same s13, s13 _ _ eb12, e13, by first | rfl | (subst hmx; subst hfr; rfl) | (subst hmx; subst hfr; subst hb0; rfl)⟩
    · rintro i σ H14 hi ⟨base, ns, o12, o13, o14, o15, ba0, ba1, hl, hz, hd14, k14, eb14, ef14, rfl⟩
      have hi' : (i : Int) < many := by omega
      refine ⟨⟨by omega, by omega⟩, ?_⟩
      have at0 : 0 ≤ (0 + (i : Int)) / likes := Int.ediv_nonneg (by omega) (by omega)
      have at1 : (0 + (i : Int)) / likes ≤ 120 := by
        have := Int.ediv_le_self likes (show 0 ≤ (0 + (i : Int)) by omega)
        omega
      generalize (0 + (i : Int)) / likes = at_ at at0 at1
      refine ⟨.inl ⟨by omega, by omega⟩, .inr ⟨by omega, by omega⟩, .inl ⟨by omega, by omega⟩, ⟨by decide, by decide⟩, .inr ⟨by decide, by decide⟩, by decide, ?_⟩
      have tn1 := Int.emod_lt_of_pos (at_ * at_ * one + at_ * (1 + ot) + at_ / 7 * 31 + th) (show (0 : Int) < 9973 by decide)
      have tn0 := Int.emod_nonneg (at_ * at_ * one + at_ * (1 + ot) + at_ / 7 * 31 + th) (show (9973 : Int) ≠ 0 by decide)
      generalize (at_ * at_ * one + at_ * (1 + ot) + at_ / 7 * 31 + th) % 9973 = turn at tn1 tn0
      refine ⟨fun σ H' => ∃ base : Int, 1 ≤ base ∧ base ≤ 1000000000001 ∧ H' = H14 ∧ σ = [some (.ref d), some (.int most), some (.int many), some (.ref bs), some (.int base), some (.bl mixed), some (.int one), some (.int (1 + ot)), some (.int th), some (.bl free), some (.int likes), some (.ref fo), some (.int (0 + (i : Int))), some (.int at_), some (.int turn), o15, none], ?_, ?_⟩
      · refine b2 (fun c => ?_) (fun c => ?_)
        · refine ⟨.inl ⟨by omega, by omega⟩, by decide, ?_⟩
          have x0 := Int.emod_nonneg (turn + at_ * at_) (show (8 : Int) ≠ 0 by decide)
          have x1 := Int.emod_lt_of_pos (turn + at_ * at_) (show (0 : Int) < 8 by decide)
          have := bsL_at x0 x1
          exact i_ixI eb14 x0 x1 ⟨_, this.1, this.2, rfl, rfl⟩
        · exact ⟨base, ba0, ba1, rfl, rfl⟩
      rintro σ H' ⟨base, ba0, ba1, rfl, rfl⟩
      refine ⟨fun σ H15 => ∃ turn : Int, 0 ≤ turn ∧ turn < 9973 ∧ DrawsAt H15 d ∧ Kp [d] H' H15 ∧ σ = [some (.ref d), some (.int most), some (.int many), some (.ref bs), some (.int base), some (.bl mixed), some (.int one), some (.int (1 + ot)), some (.int th), some (.bl free), some (.int likes), some (.ref fo), some (.int (0 + (i : Int))), some (.int at_), some (.int turn), o15, none], ?_, ?_⟩
      · have tk : ∀ (D : Ends) (σ : St), True := fun _ _ => trivial
        refine dec2 (fun c => bT ?_) (fun c => b2 (fun c1 => ?_) (fun c1 => bF ?_))
        · exact ⟨d, 1000, rfl, hd14, by decide, fun g H15 g0 g1 hd15 k15 => ⟨g, g0, by omega, hd15, k15, rfl⟩⟩
        · obtain ⟨ds, ed, hd0, hdl⟩ := hd14
          refine i_lenI ed (dec2 (fun c2 => ?_) (fun c2 => ?_))
          · exact ⟨d, 1000, rfl, ⟨ds, ed, hd0, hdl⟩, by decide, fun g H15 g0 g1 hd15 k15 => ⟨g, g0, by omega, hd15, k15, rfl⟩⟩
          · exact ⟨turn, tn0, tn1, ⟨ds, ed, hd0, hdl⟩, Kp.refl _ _, rfl⟩
        · exact ⟨turn, tn0, tn1, hd14, Kp.refl _ _, rfl⟩
      rintro σ H15 ⟨turn, tn0, tn1, hd15, k15, rfl⟩
      obtain ⟨⟨na, nb⟩, nc, nd⟩ := num_ok tn0 tn1 ba0 ba1
      refine ⟨by omega, ⟨by decide, by decide⟩, .inl ⟨by omega, by omega⟩, by decide, ?_⟩
      refine i_newL (by show 2 ≤ sizeLine; decide) fun p16 H16 hp16 s16 e16 => ?_
      have hnum : ∃ number : Int, atI [V.int (turn % base), V.int (turn * (base / 9973) + turn % 7)] (if decide (1000 < base) = true then 1 else 0) = some (.int number) ∧ 0 ≤ number ∧ number ≤ 1000000000000 := by
        by_cases z : 1000 < base
        · exact ⟨_, by rw [decide_eq_true z, if_pos rfl]; rfl, nc, nd⟩
        · exact ⟨_, by rw [decide_eq_false z, if_neg (by decide)]; rfl, na, by have := nb z; omega⟩
      obtain ⟨number, enu, nu0, nu1⟩ := hnum
      refine i_ix (.inl (SqL.of e16)) enu ?_
      have hp16' := hp16
      have ef16 := s16 _ _ (k15.one nfo ef14)
      have eb16 := s16 _ _ (k15.one nbs eb14)
      have kk16 : Kp [d] H H16 := (k14.trans k15).same s16
      refine ⟨i_tyL ef16, ⟨by decide, by decide, by decide⟩, ?_⟩
      refine i_newL (by show 2 ≤ sizeLine; decide) fun p17 H17 hp17 s17 e17 => ?_
      have pick : ∀ bb : Bool, ∃ z : Int, atI [V.int number, V.int (10 ^ Int.toNat 12)] (if bb = true then 1 else 0) = some (.int z) ∧ 0 ≤ z ∧ z ≤ 1000000000000 := fun bb => by
        cases bb
        · exact ⟨number, rfl, nu0, nu1⟩
        · exact ⟨10 ^ Int.toNat 12, rfl, by decide, by decide⟩
      have put : ∀ (bb : Bool) (Q' : VK), (∀ (z : Int) (H' : Hp), 0 ≤ z → z ≤ 1000000000000 → Kp [fo] H17 H' → H' fo = some (.lst ((ns ++ [z]).map V.int)) → Q' .non H') → hIx K p17 (if bb = true then 1 else 0) H17 (fun y H1 => hApp fo y H1 Q') := fun bb Q' hq => by
        obtain ⟨z, ez, z0, z1⟩ := pick bb
        exact i_ix (.inl (SqL.of e17)) ez (i_appI (s17 _ _ ef16) (by omega) fun H18 k18 e18 => hq z H18 z0 z1 k18 e18)
      have fin : ∀ (z : Int) (H18 : Hp), 0 ≤ z → z ≤ 1000000000000 → Kp [fo] H17 H18 → H18 fo = some (.lst ((ns ++ [z]).map V.int)) → ∀ σ : St, σ = [some (.ref d), some (.int most), some (.int many), some (.ref bs), some (.int base), some (.bl mixed), some (.int one), some (.int (1 + ot)), some (.int th), some (.bl free), some (.int likes), some (.ref fo), some (.int (0 + (i : Int))), some (.int at_), some (.int turn), some (.int number), none] → ∃ (base : Int) (ns' : List Int) (o12 o13 o14 o15 : Option V), 1 ≤ base ∧ base ≤ 1000000000001 ∧ ns'.length = i + 1 ∧ (∀ z ∈ ns', 0 ≤ z ∧ z ≤ 1000000000000) ∧ DrawsAt H18 d ∧ Kp [d] H H18 ∧ H18 bs = some (.lst (bsL.map V.int)) ∧ H18 fo = some (.lst (ns'.map V.int)) ∧ σ = [some (.ref d), some (.int most), some (.int many), some (.ref bs), some (.int base), some (.bl mixed), some (.int one), some (.int (1 + ot)), some (.int th), some (.bl free), some (.int likes), some (.ref fo), o12, o13, o14, o15, none] := fun z H18 z0 z1 k18 e18 σ hσ =>
        ⟨base, ns ++ [z], _, _, _, _, ba0, ba1, by simp [hl], fun y hy => by
          rcases List.mem_append.mp hy with hy | hy
          · exact hz y hy
          · have : y = z := by simpa using hy
            subst this; exact ⟨z0, z1⟩, ((hd15.same s16).same s17).kp k18 (by simpa using Ne.symm nfo), (kk16.same s17).new k18 hfo0, k18.one nfb (s17 _ _ eb16), e18, hσ⟩
      refine ⟨⟨by decide, by decide, by decide⟩, dec2 (fun c => ⟨by decide, ?_⟩) (fun c => ?_)⟩
      · exact put _ _ fun z H18 z0 z1 k18 e18 => fin z H18 z0 z1 k18 e18 _ rfl
      · refine put _ _ fun z H18 z0 z1 k18 e18 => ?_
        exact fin z H18 z0 z1 k18 e18 _ rfl
    · rintro σ H' ⟨base, ns, o12, o13, o14, o15, _, _, h1, h2, h3, h4, _, h5, rfl⟩
      exact ⟨base, ns, o12, o13, o14, o15, by omega, h2, h3, h4, h5, rfl⟩
  rintro σ H14 ⟨base, ns, o12, o13, o14, o15, hl, hz, hd14, k14, e14, rfl⟩
  refine ⟨d, 8, rfl, hd14, by decide, fun sh H15 sh0 sh1 hd15 k15 => ?_⟩
  have e15 := k15.one nfo e14
  have kk15 := k14.trans k15
  have rowN : ∀ ms : List Int, ms.length = ns.length → (∀ z ∈ ms, 0 ≤ z ∧ z ≤ 1000000000000) → RowM ms := fun ms h1 h2 => ⟨by omega, by omega, fun n hn => (h2 n hn).1, fun n hn => (h2 n hn).2⟩
  refine dec2 (fun c => ?_) (fun c => ?_)
  · refine i_sorted (SqL.of e15) (by omega) fun p16 H16 ns' hperm hp16 s16 e16 => ?_
    have n16 : p16 ≠ d := (hd15.ne hp16).symm
    exact q p16 ns' H16 (rowN _ hperm.length_eq fun z hz' => hz z (hperm.mem_iff.mp hz')) (by rw [hperm.length_eq]; omega) (hd15.same s16) (kk15.same s16) e16 n16 (kk15.free (by simpa using n16) hp16)
  refine dec2 (fun c => ?_) (fun c => ?_)
  · refine i_sorted (SqL.of e15) (by omega) fun p16 H16 ns' hperm hp16 s16 e16 => ?_
    refine ⟨rfl, i_rev (SqL.of e16) fun p17 H17 hp17 s17 e17 => ?_⟩
    have n17 : p17 ≠ d := ((hd15.same s16).ne hp17).symm
    have e17' : H17 p17 = some (.lst (ns'.reverse.map V.int)) := by rw [e17, List.map_reverse]
    exact q p17 ns'.reverse H17 (rowN _ (by rw [List.length_reverse]; exact hperm.length_eq) fun z hz' => hz z (hperm.mem_iff.mp (List.mem_reverse.mp hz'))) (by rw [List.length_reverse, hperm.length_eq]; omega) ((hd15.same s16).same s17) ((kk15.same s16).same s17) e17' n17 ((kk15.same s16).free (by simpa using n17) hp17)
  refine dec2 (fun c => ?_) (fun c => ?_)
  · have hne : ns ≠ [] := fun z => by rw [z] at hl; simp at hl; omega
    refine ⟨⟨_, SqL.of e15⟩, comp_lst (ns.map V.int) (fun i D σ H' ys => ∃ ws : List Int, ys = ws.map V.int ∧ ws.length = i ∧ (∀ z ∈ ws, 0 ≤ z ∧ z ≤ 1000000000000) ∧ Same H15 H' ∧ ∃ o, σ = [o, some (.ref fo)]) ?_ ?_ ?_ ?_⟩
    · intro D H' hD s' e'
      exact ⟨[], rfl, rfl, by simp, s', _, rfl⟩
    · rintro i D σ H' ys hD ⟨_, _, _, _, s', _⟩
      exact SqL.of (s' _ _ e15)
    · rintro i x D σ H' ys hx hD ⟨ws, rfl, hlw, hw, s', o, rfl⟩ eD
      obtain ⟨z, rfl, hz1, hz2⟩ := vints_at hx
      have hi : i < ns.length := (List.getElem?_eq_some_iff.mp hz1).1
      refine bT (i_newL (by show 2 ≤ sizeLine; decide) fun p17 H17 hp17 s17 e17 => ?_)
      refine i_max (SqL.of (s17 _ _ (s' _ _ e15))) hne fun M hM hmax => ?_
      have pick : ∀ bb : Bool, ∃ y : Int, atI [V.int 0, V.int z] (if bb = true then 1 else 0) = some (.int y) ∧ 0 ≤ y ∧ y ≤ 1000000000000 := fun bb => by
        cases bb
        · exact ⟨0, rfl, by decide, by decide⟩
        · exact ⟨z, rfl, (hz z hz2).1, (hz z hz2).2⟩
      obtain ⟨y, ey, y0, y1⟩ := pick (decide (z = M))
      refine i_ix (.inl (SqL.of e17)) ey ?_
      refine ⟨s17 _ _ eD, sz_lt (by rw [List.length_map]; omega), fun H18 k18 e18 => ⟨ws ++ [y], map_snoc ws _, by simp [hlw], fun v hv => ?_, (s'.trans s17).new k18 hD, _, rfl⟩⟩
      rcases List.mem_append.mp hv with hv | hv
      · exact hw v hv
      · have : v = y := by simpa using hv
        subst this; exact ⟨y0, y1⟩
    · rintro D σ H' ys hD ⟨ws, rfl, hlw, hw, s', _⟩ eD
      rw [List.length_map] at hlw
      have nD : D ≠ d := (hd15.ne hD).symm
      exact q D ws H' (rowN _ hlw hw) (by rw [hlw]; omega) (hd15.same s') (kk15.same s') eD nD (kk15.free (by simpa using nD) hD)
  · exact q fo ns H15 (rowN _ rfl hz) (by omega) hd15 kk15 e15 nfo hfo0

abbrev s_law_pieces : Stmt := top 24
theorem sc_law_pieces : FnScope ["draws", "row", "some"] ["draws", "row"] (defScope s_law_pieces) := ⟨rfl, rfl, rfl, by decide +kernel, rfl, by decide +kernel, by decide +kernel⟩
theorem l_law_pieces_some : Loc (defScope s_law_pieces) "some" := Or.inl (by kernel_rfl)
theorem v_law_pieces_draws : Vis (defScope s_law_pieces) "draws" := Or.inl (by kernel_rfl)
theorem v_law_pieces_row : Vis (defScope s_law_pieces) "row" := Or.inl (by kernel_rfl)
theorem v_law_pieces_some : Vis (defScope s_law_pieces) "some" := Or.inl (by kernel_rfl)
theorem g_law_pieces__law_take : (defScope s_law_pieces).names.lookup ("_law_take" : Str) = some NameKind.globalImplicit := by kernel_rfl
theorem g_law_pieces_len : (defScope s_law_pieces).names.lookup ("len" : Str) = some NameKind.globalImplicit := by kernel_rfl
theorem g_law_pieces_min : (defScope s_law_pieces).names.lookup ("min" : Str) = some NameKind.globalImplicit := by kernel_rfl
def t_law_pieces {cdv : Value} {A : Around} {outer : List Env} {s : Shared} {H : Hp} {E : XK} (B : Bl mg) (D_law_take : Def P w K mg base 1 "_law_take" ["draws", "many"] sp_law_take) (hr : Room 1 (A.deeper (PyProof.Rows.envOfC "_law_pieces" (defScope s_law_pieces) s.heap.objs.size f cdv))) :
    { t : TS // QB (cxOf CX0 P w K mg base ["draws", "row", "some"] "_law_pieces" (defScope s_law_pieces) f cdv A outer s H E).nox (defBody s_law_pieces) t } :=
  ⟨_, (qb_cons (qs_set (i := 2) sc_law_pieces.nd rfl l_law_pieces_some (.inl rfl) (qe_lst (qa_cons qe_int (qa_cons (qe_cB (kLen (K := K) rfl) g_law_pieces_len B.len boot_len' (qa_cons (qv 1 rfl v_law_pieces_row) qa_nil)) (qa_cons (qe_cB (kMin (K := K) rfl rfl) g_law_pieces_min B.min boot_min' (qa_cons (qe_cB (kLen (K := K) rfl) g_law_pieces_len B.len boot_len' (qa_cons (qv 1 rfl v_law_pieces_row) qa_nil)) (qa_cons (qe_op opAdd qe_int (qe_def D_law_take hr (by decide) g_law_pieces__law_take (qa_cons (qv 0 rfl v_law_pieces_draws) (qa_cons qe_int qa_nil)))) qa_nil))) (qa_cons (qe_op opAdd qe_int (qe_op opMod (qe_def D_law_take hr (by decide) g_law_pieces__law_take (qa_cons (qv 0 rfl v_law_pieces_draws) (qa_cons qe_int qa_nil))) (qe_cB (kLen (K := K) rfl) g_law_pieces_len B.len boot_len' (qa_cons (qv 1 rfl v_law_pieces_row) qa_nil)))) qa_nil))))))
    (qb_one (qs_ret (ke_ix (K := K) rfl (qv 2 rfl v_law_pieces_some) (ke_ix (K := K) rfl (qe_lst (qa_cons qe_int (qa_cons qe_int (qa_cons qe_int (qa_cons qe_int (qa_cons qe_int (qa_cons qe_int (qa_cons qe_int qa_nil)))))))) (qe_def D_law_take hr (by decide) g_law_pieces__law_take (qa_cons (qv 0 rfl v_law_pieces_draws) (qa_cons qe_int qa_nil))) (fun _ _ => rfl)) (fun _ _ => rfl)))))⟩
theorem ok_law_pieces (B : Bl mg) (D_law_take : Def P w K mg base 1 "_law_take" ["draws", "many"] sp_law_take) (F : Fun K "_law_pieces" "_law_pieces" s_law_pieces f fd) : FnOk P w K mg base CX0 2 f fd ["draws", "row"] sp_law_pieces := by
  refine F.okq sc_law_pieces (fun vs H Q E h => ?_) (fun cdv A outer s H vs Q E hr h => ?_)
  · obtain ⟨d, r, ns, rfl, _⟩ := h; rfl
  obtain ⟨d, r, ns, rfl, hd, hr0, nrd, n1, n2, q⟩ := h
  refine ⟨t_law_pieces B D_law_take hr, ?_⟩
  refine i_lenI hr0 (i_lenI hr0 ⟨d, 4, rfl, hd, by decide, fun g H1 g0 g1 hd1 k1 => ?_⟩)
  refine ⟨d, 1000, rfl, hd1, by decide, fun g' H2 g0' g1' hd2 k2 => ?_⟩
  have er2 := k2.one nrd (k1.one nrd hr0)
  refine i_lenI er2 ⟨by omega, i_newL (by show 4 ≤ sizeLine; decide) fun p3 H3 hp3 s3 e3 => ?_⟩
  refine i_newL (by show 7 ≤ sizeLine; decide) fun p4 H4 hp4 s4 e4 => ?_
  refine ⟨d, 7, rfl, (hd2.same s3).same s4, by decide, fun g5 H5 g50 g51 hd5 k5 => ?_⟩
  have n3 : p3 ≠ d := (hd2.ne hp3).symm
  have n4 : p4 ≠ d := ((hd2.same s3).ne hp4).symm
  have e4' : H5 p4 = some (.lst (([0, 1, 2, 2, 3, 3, 3] : List Int).map V.int)) := k5.one n4 e4
  refine i_ixI e4' g50 (by simpa using g51) ?_
  have hm := atInts (ns := [0, 1, 2, 2, 3, 3, 3]) g50 (by simpa using g51)
  generalize ([0, 1, 2, 2, 3, 3, 3] : List Int).getD g5.toNat 0 = j at hm
  have hj : 0 ≤ j ∧ j < 4 := by
    simp only [List.mem_cons, List.not_mem_nil, or_false] at hm
    omega
  have b0 := Int.emod_nonneg g' (show (ns.length : Int) ≠ 0 by omega)
  have b1 := Int.emod_lt_of_pos g' (show (0 : Int) < ns.length by omega)
  have e3' : H5 p3 = some (.lst (([1, (ns.length : Int), min (ns.length : Int) (2 + g), 1 + g' % (ns.length : Int)] : List Int).map V.int)) := k5.one n3 (s4 _ _ e3)
  refine i_ixI e3' hj.1 (by simpa using hj.2) ?_
  have hm2 := atInts (ns := [1, (ns.length : Int), min (ns.length : Int) (2 + g), 1 + g' % (ns.length : Int)]) hj.1 (by simpa using hj.2)
  generalize ([1, (ns.length : Int), min (ns.length : Int) (2 + g), 1 + g' % (ns.length : Int)] : List Int).getD j.toNat 0 = z at hm2
  have hz : 1 ≤ z ∧ z ≤ ns.length := by
    simp only [List.mem_cons, List.not_mem_nil, or_false] at hm2
    omega
  have ez : z = ((z.toNat : Nat) : Int) := by omega
  rw [ez]
  exact q _ H5 (by omega) (by omega) hd5 ((((k1.trans k2).same s3).same s4).trans k5)

end
end K

set_option linter.all false
set_option Elab.async false
set_option maxRecDepth 100000
set_option maxHeartbeats 4000000
namespace K
open PySem L2
section
variable {C : Addr} {P : Program} {w : World} {K : PySem.W.Frag} {mg : Str → Option Value} {base : Heap} {f : Addr} {fd : FuncData}

abbrev s_is_whole : Stmt := top 4
theorem sc_is_whole : FnScope ["thing"] ["thing"] (defScope s_is_whole) := ⟨rfl, rfl, rfl, by decide +kernel, rfl, by decide +kernel, by decide +kernel⟩
theorem v_is_whole_thing : Vis (defScope s_is_whole) "thing" := Or.inl (by kernel_rfl)
theorem g_is_whole_bool : (defScope s_is_whole).names.lookup ("bool" : Str) = some NameKind.globalImplicit := by kernel_rfl
theorem g_is_whole_int : (defScope s_is_whole).names.lookup ("int" : Str) = some NameKind.globalImplicit := by kernel_rfl
theorem g_is_whole_isinstance : (defScope s_is_whole).names.lookup ("isinstance" : Str) = some NameKind.globalImplicit := by kernel_rfl
def t_is_whole {cdv : Value} {A : Around} {outer : List Env} {s : Shared} {H : Hp} {E : XK} (B : Bl mg) (hr : Room 0 (A.deeper (PyProof.Rows.envOfC "is_whole" (defScope s_is_whole) s.heap.objs.size f cdv))) :
    { t : TS // QB (cxOf CX0 P w K mg base ["thing"] "is_whole" (defScope s_is_whole) f cdv A outer s H E).nox (defBody s_is_whole) t } :=
  ⟨_, (qb_one (qs_ret (ke_and (K := K) rfl (qe_cB (kIsi (K := K) rfl) g_is_whole_isinstance B.isinstance boot_isinstance' (qa_cons (qv 0 rfl v_is_whole_thing) (qa_cons (qe_ty g_is_whole_int B.int boot_int) qa_nil))) (qe_one (ke_not (K := K) rfl (qe_cB (kIsi (K := K) rfl) g_is_whole_isinstance B.isinstance boot_isinstance' (qa_cons (qv 0 rfl v_is_whole_thing) (qa_cons (qe_ty g_is_whole_bool B.bool boot_bool) qa_nil))))))))⟩
/-- of a whole number -/
def sp_is_whole : Sp := fun vs H Q _ => ∃ i : Int, vs = [.int i] ∧ Q (.bl true) H
theorem ok_is_whole (B : Bl mg) (F : Fun K "is_whole" "is_whole" s_is_whole f fd) : FnOk P w K mg base CX0 1 f fd ["thing"] sp_is_whole := by
  refine F.okq sc_is_whole (fun vs H Q E h => ?_) (fun cdv A outer s H vs Q E hr h => ?_)
  · obtain ⟨i, rfl, _⟩ := h; rfl
  obtain ⟨i, rfl, q⟩ := h
  refine ⟨t_is_whole B hr, ?_⟩
  refine i_isi (.int i) (by simp) (by simp) (bIs (by decide +kernel) ?_)
  refine i_isi (.int i) (by simp) (by simp) ?_
  have e : isTy "int" "bool" = false := by decide +kernel
  rw [e]; exact q

abbrev s_is_within : Stmt := top 5
theorem sc_is_within : FnScope ["thing", "low", "high"] ["thing", "low", "high"] (defScope s_is_within) := ⟨rfl, rfl, rfl, by decide +kernel, rfl, by decide +kernel, by decide +kernel⟩
theorem v_is_within_high : Vis (defScope s_is_within) "high" := Or.inl (by kernel_rfl)
theorem v_is_within_low : Vis (defScope s_is_within) "low" := Or.inl (by kernel_rfl)
theorem v_is_within_thing : Vis (defScope s_is_within) "thing" := Or.inl (by kernel_rfl)
theorem g_is_within_is_whole : (defScope s_is_within).names.lookup ("is_whole" : Str) = some NameKind.globalImplicit := by kernel_rfl
def t_is_within {cdv : Value} {A : Around} {outer : List Env} {s : Shared} {H : Hp} {E : XK} (B : Bl mg) (D_is_whole : Def P w K mg base 1 "is_whole" ["thing"] sp_is_whole) (hr : Room 1 (A.deeper (PyProof.Rows.envOfC "is_within" (defScope s_is_within) s.heap.objs.size f cdv))) :
    { t : TS // QB (cxOf CX0 P w K mg base ["thing", "low", "high"] "is_within" (defScope s_is_within) f cdv A outer s H E).nox (defBody s_is_within) t } :=
  ⟨_, (qb_one (qs_ret (ke_and (K := K) rfl (qe_def D_is_whole hr (by decide) g_is_within_is_whole (qa_cons (qv 0 rfl v_is_within_thing) qa_nil)) (qe_one (qe_chain opLe opLe (qv 1 rfl v_is_within_low) (qv 0 rfl v_is_within_thing) (qv 2 rfl v_is_within_high))))))⟩
/-- of whole numbers -/
def sp_is_within : Sp := fun vs H Q _ => ∃ i l u : Int, vs = [.int i, .int l, .int u] ∧ Q (.bl (decide (l ≤ i ∧ i ≤ u))) H
theorem ok_is_within (B : Bl mg) (D_is_whole : Def P w K mg base 1 "is_whole" ["thing"] sp_is_whole) (F : Fun K "is_within" "is_within" s_is_within f fd) : FnOk P w K mg base CX0 2 f fd ["thing", "low", "high"] sp_is_within := by
  refine F.okq sc_is_within (fun vs H Q E h => ?_) (fun cdv A outer s H vs Q E hr h => ?_)
  · obtain ⟨i, l, u, rfl, _⟩ := h; rfl
  obtain ⟨i, l, u, rfl, q⟩ := h
  refine ⟨t_is_within B D_is_whole hr, ?_⟩
  refine ⟨i, rfl, bT (dec2 (fun c => ?_) (fun c => ?_))⟩
  · have e : decide (l ≤ i ∧ i ≤ u) = decide (i ≤ u) := by simp [c]
    rw [e] at q; exact q
  · have e : decide (l ≤ i ∧ i ≤ u) = false := by simp [c]
    rw [e] at q; exact q

abbrev s_check_many : Stmt := top 8
theorem sc_check_many : FnScope ["row", "many"] ["row", "many"] (defScope s_check_many) := ⟨rfl, rfl, rfl, by decide +kernel, rfl, by decide +kernel, by decide +kernel⟩
theorem v_check_many_many : Vis (defScope s_check_many) "many" := Or.inl (by kernel_rfl)
theorem v_check_many_row : Vis (defScope s_check_many) "row" := Or.inl (by kernel_rfl)
theorem g_check_many_is_within : (defScope s_check_many).names.lookup ("is_within" : Str) = some NameKind.globalImplicit := by kernel_rfl
theorem g_check_many_len : (defScope s_check_many).names.lookup ("len" : Str) = some NameKind.globalImplicit := by kernel_rfl
def t_check_many {cdv : Value} {A : Around} {outer : List Env} {s : Shared} {H : Hp} {E : XK} (B : Bl mg) (D_is_within : Def P w K mg base 2 "is_within" ["thing", "low", "high"] sp_is_within) (hr : Room 2 (A.deeper (PyProof.Rows.envOfC "check_many" (defScope s_check_many) s.heap.objs.size f cdv))) :
    { t : TS // QB (cxOf CX0 P w K mg base ["row", "many"] "check_many" (defScope s_check_many) f cdv A outer s H E).nox (defBody s_check_many) t } :=
  ⟨_, (qb_one (qs_if (qt_not (kt_val (K := K) rfl (qe_def D_is_within hr (by decide) g_check_many_is_within (qa_cons (qv 1 rfl v_check_many_many) (qa_cons qe_int (qa_cons (qe_cB (kLen (K := K) rfl) g_check_many_len B.len boot_len' (qa_cons (qv 0 rfl v_check_many_row) qa_nil)) qa_nil)))))) (qb_one qs_never) qb_nil))⟩
/-- of a number of pieces that is one -/
def sp_check_many : Sp := fun vs H Q _ => ∃ (r : Addr) (m : Int) (xs : List V), vs = [.ref r, .int m] ∧ H r = some (.lst xs) ∧ 1 ≤ m ∧ m ≤ xs.length ∧ Q .non H
theorem ok_check_many (B : Bl mg) (D_is_within : Def P w K mg base 2 "is_within" ["thing", "low", "high"] sp_is_within) (F : Fun K "check_many" "check_many" s_check_many f fd) : FnOk P w K mg base CX0 3 f fd ["row", "many"] sp_check_many := by
  refine F.okq sc_check_many (fun vs H Q E h => ?_) (fun cdv A outer s H vs Q E hr h => ?_)
  · obtain ⟨r, m, xs, rfl, _⟩ := h; rfl
  obtain ⟨r, m, xs, rfl, hr0, h1, h2, q⟩ := h
  refine ⟨t_check_many B D_is_within hr, ?_⟩
  refine i_lenL hr0 ⟨m, 1, _, rfl, ?_⟩
  have e : decide ((1 : Int) ≤ m ∧ m ≤ (xs.length : Int)) = true := decide_eq_true ⟨h1, h2⟩
  rw [e]
  exact bF q

end
end K

set_option linter.all false
set_option Elab.async false
set_option maxRecDepth 100000
set_option maxHeartbeats 4000000
namespace K
open PySem L2
section
variable {C : Addr} {P : Program} {w : World} {K : PySem.W.Frag} {mg : Str → Option Value} {base : Heap} {f : Addr} {fd : FuncData}

abbrev s_long_cut : Stmt := top 10
theorem sc_long_cut : FnScope ["row", "bound", "cut", "total", "place", "number"] ["row", "bound"] (defScope s_long_cut) := ⟨rfl, rfl, rfl, by decide +kernel, rfl, by decide +kernel, by decide +kernel⟩
theorem l_long_cut_cut : Loc (defScope s_long_cut) "cut" := Or.inl (by kernel_rfl)
theorem l_long_cut_number : Loc (defScope s_long_cut) "number" := Or.inl (by kernel_rfl)
theorem l_long_cut_place : Loc (defScope s_long_cut) "place" := Or.inl (by kernel_rfl)
theorem l_long_cut_total : Loc (defScope s_long_cut) "total" := Or.inl (by kernel_rfl)
theorem v_long_cut_bound : Vis (defScope s_long_cut) "bound" := Or.inl (by kernel_rfl)
theorem v_long_cut_cut : Vis (defScope s_long_cut) "cut" := Or.inl (by kernel_rfl)
theorem v_long_cut_number : Vis (defScope s_long_cut) "number" := Or.inl (by kernel_rfl)
theorem v_long_cut_place : Vis (defScope s_long_cut) "place" := Or.inl (by kernel_rfl)
theorem v_long_cut_row : Vis (defScope s_long_cut) "row" := Or.inl (by kernel_rfl)
theorem v_long_cut_total : Vis (defScope s_long_cut) "total" := Or.inl (by kernel_rfl)
theorem g_long_cut_enumerate : (defScope s_long_cut).names.lookup ("enumerate" : Str) = some NameKind.globalImplicit := by kernel_rfl
theorem g_long_cut_max : (defScope s_long_cut).names.lookup ("max" : Str) = some NameKind.globalImplicit := by kernel_rfl
def t_long_cut {cdv : Value} {A : Around} {outer : List Env} {s : Shared} {H : Hp} {E : XK} (B : Bl mg) (hr : Room 0 (A.deeper (PyProof.Rows.envOfC "long_cut" (defScope s_long_cut) s.heap.objs.size f cdv))) :
    { t : TS // QB (cxOf CX0 P w K mg base ["row", "bound", "cut", "total", "place", "number"] "long_cut" (defScope s_long_cut) f cdv A outer s H E).nox (defBody s_long_cut) t } :=
  ⟨_, (qb_cons (qs_if (qt_cmp opGt (qe_cB (kMax (K := K) rfl rfl) g_long_cut_max B.max boot_max' (qa_cons (qv 0 rfl v_long_cut_row) qa_nil)) (qv 1 rfl v_long_cut_bound)) (qb_one (qs_ret qe_non)) qb_nil)
    (qb_cons (qs_set (i := 2) sc_long_cut.nd rfl l_long_cut_cut (.inl rfl) (qe_lst qa_nil))
    (qb_cons (qs_set (i := 3) sc_long_cut.nd rfl l_long_cut_total (.inl rfl) qe_int)
    (qb_mid (qs_for PassesOwn.never rfl (ki_enum (K := K) rfl g_long_cut_enumerate B.enumerate (qa_cons (qv 0 rfl v_long_cut_row) qa_nil)) (kg_tup (K := K) rfl rfl (qgs_cons (qg_name (i := 4) sc_long_cut.nd rfl l_long_cut_place (.inl rfl)) (qgs_cons (qg_name (i := 5) sc_long_cut.nd rfl l_long_cut_number (.inl rfl)) qgs_nil))) (qb_mid (qs_if (qt_cmp opGt (qe_op opAdd (qv 3 rfl v_long_cut_total) (qv 5 rfl v_long_cut_number)) (qv 1 rfl v_long_cut_bound)) (qb_cons (qs_ex (ke_m1 (K := K) rfl PySem.F.plainAttrs_list PySem.F.slot_list_append PySem.F.type_list_append mtApp (qv 2 rfl v_long_cut_cut) (qv 4 rfl v_long_cut_place)))
    (qb_one (qs_set (i := 3) sc_long_cut.nd rfl l_long_cut_total (.inl rfl) qe_int))) qb_nil)
    (qb_one (qs_aug (i := 3) sc_long_cut.nd rfl l_long_cut_total (.inl rfl) (qv 5 rfl v_long_cut_number) ipAdd))))
    (qb_one (qs_ret (qv 2 rfl v_long_cut_cut)))))))⟩
open M5 in
def sp_long_cut : Sp := fun vs H Q _ => ∃ (r : Addr) (b : Int) (ns : List Int), vs = [.ref r, .int b] ∧ H r = some (.lst (ns.map V.int)) ∧ ns ≠ [] ∧ ns.length ≤ 1000 ∧ ((∃ n ∈ ns, b < n) → Q .non H) ∧
  ((∀ n ∈ ns, n ≤ b) → ∀ p H', H p = none → Same H H' → H' p = some (.lst ((lcut b 0 0 ns).map V.int)) → Q (.ref p) H')
open M5 in
theorem ok_long_cut (B : Bl mg) (F : Fun K "long_cut" "long_cut" s_long_cut f fd) : FnOk P w K mg base CX0 1 f fd ["row", "bound"] sp_long_cut := by
  refine F.okq sc_long_cut (fun vs H Q E h => ?_) (fun cdv A outer s H vs Q E hr h => ?_)
  · obtain ⟨r, b, ns, rfl, _⟩ := h; rfl
  obtain ⟨r, b, ns, rfl, hr0, hne, hle, q1, q2⟩ := h
  refine ⟨t_long_cut B hr, ?_⟩
  refine i_max (SqL.of hr0) hne fun M hM hmax => dec2 (fun c => q1 ⟨M, hM, c⟩) (fun c => ?_)
  have hb : ∀ n ∈ ns, n ≤ b := fun n hn => by have := hmax n hn; omega
  refine i_newL (by show 0 ≤ sizeLine; decide) fun p H1 hp s1 e1 => ?_
  refine ⟨fun σ H' => Same H H' ∧ H' p = some (.lst ((lcut b 0 0 ns).map V.int)) ∧ gt σ 2 = some (.ref p), ?_, ?_⟩
  · refine ⟨⟨_, SqL.of (s1 _ _ hr0)⟩, for_en (ns.map V.int) (fun i σ H' => ∃ o1 o2, σ = [some (.ref r), some (.int b), some (.ref p), some (.int (ltot b 0 (ns.take i))), o1, o2] ∧ Same H H' ∧ H' p = some (.lst ((lcut b 0 0 (ns.take i)).map V.int))) ?_ ?_ ?_ ?_⟩
    · exact ⟨none, none, rfl, s1, e1⟩
    · rintro i σ H' _ ⟨o1, o2, rfl, s', e'⟩
      exact SqL.of (s' _ _ hr0)
    · rintro i x σ H' T H2 hx ⟨o1, o2, rfl, s', e'⟩ hT s2 e2
      obtain ⟨z, rfl, hz, _⟩ := vints_at hx
      have hi : i < ns.length := (List.getElem?_eq_some_iff.mp hz).1
      have hlen : (ns.take i).length = i := by rw [List.length_take]; omega
      have et := take_snoc hz
      have e3 := s2 _ _ e'
      refine i_unp e2 rfl ?_
      refine ⟨fun σ H' => σ = [some (.ref r), some (.int b), some (.ref p), some (.int (if ltot b 0 (ns.take i) + z > b then 0 else ltot b 0 (ns.take i))), some (.int i), some (.int z)] ∧ Same H H' ∧ H' p = some (.lst ((lcut b 0 0 (ns.take (i + 1))).map V.int)), ?_, ?_⟩
      · have el : lcut b 0 0 (ns.take (i + 1)) = lcut b 0 0 (ns.take i) ++ (if ltot b 0 (ns.take i) + z > b then [(i : Int)] else []) := by
          rw [et, lcut_app, hlen, Nat.zero_add]
          simp only [lcut]
        have ll : (lcut b 0 0 (ns.take i)).length ≤ 1000 := by
          have := lcut_len b (ns.take i) 0 0; omega
        refine dec2 (fun c => ?_) (fun c => ?_)
        · refine ⟨i_tyL e3, i_appI e3 (by omega) fun H4 k4 e4 => ?_⟩
          have c' : ltot b 0 (ns.take i) + z > b := c
          refine ⟨by rw [if_pos c']; rfl, (s'.trans s2).new k4 hp, by rw [e4, el, if_pos c']⟩
        · have c' : ¬ ltot b 0 (ns.take i) + z > b := c
          refine ⟨by rw [if_neg c']; rfl, s'.trans s2, by rw [e3, el, if_neg c', List.append_nil]⟩
      · rintro σ H4 ⟨rfl, s4, e4⟩
        refine ⟨some (.int i), some (.int z), ?_, s4, e4⟩
        rw [et, ltot_app]
        simp only [ltot]
        by_cases c : ltot b 0 (ns.take i) + z > b
        · simp [c]
        · simp [c]
    · rintro σ H' ⟨o1, o2, rfl, s', e'⟩
      rw [List.length_map, List.take_length] at e'
      exact ⟨s', e', rfl⟩
  · rintro σ H' ⟨s', e', hg⟩
    show mVar 2 σ H' Q
    unfold mVar
    rw [hg]
    exact q2 hb p H' hp s' e'

abbrev s_fewest_pieces : Stmt := top 11
theorem sc_fewest_pieces : FnScope ["row", "bound", "cut"] ["row", "bound"] (defScope s_fewest_pieces) := ⟨rfl, rfl, rfl, by decide +kernel, rfl, by decide +kernel, by decide +kernel⟩
theorem l_fewest_pieces_cut : Loc (defScope s_fewest_pieces) "cut" := Or.inl (by kernel_rfl)
theorem v_fewest_pieces_bound : Vis (defScope s_fewest_pieces) "bound" := Or.inl (by kernel_rfl)
theorem v_fewest_pieces_cut : Vis (defScope s_fewest_pieces) "cut" := Or.inl (by kernel_rfl)
theorem v_fewest_pieces_row : Vis (defScope s_fewest_pieces) "row" := Or.inl (by kernel_rfl)
theorem g_fewest_pieces_len : (defScope s_fewest_pieces).names.lookup ("len" : Str) = some NameKind.globalImplicit := by kernel_rfl
theorem g_fewest_pieces_long_cut : (defScope s_fewest_pieces).names.lookup ("long_cut" : Str) = some NameKind.globalImplicit := by kernel_rfl
def t_fewest_pieces {cdv : Value} {A : Around} {outer : List Env} {s : Shared} {H : Hp} {E : XK} (B : Bl mg) (D_long_cut : Def P w K mg base 1 "long_cut" ["row", "bound"] sp_long_cut) (hr : Room 1 (A.deeper (PyProof.Rows.envOfC "fewest_pieces" (defScope s_fewest_pieces) s.heap.objs.size f cdv))) :
    { t : TS // QB (cxOf CX0 P w K mg base ["row", "bound", "cut"] "fewest_pieces" (defScope s_fewest_pieces) f cdv A outer s H E).nox (defBody s_fewest_pieces) t } :=
  ⟨_, (qb_cons (qs_set (i := 2) sc_fewest_pieces.nd rfl l_fewest_pieces_cut (.inl rfl) (qe_def D_long_cut hr (by decide) g_fewest_pieces_long_cut (qa_cons (qv 0 rfl v_fewest_pieces_row) (qa_cons (qv 1 rfl v_fewest_pieces_bound) qa_nil))))
    (qb_cons (qs_if (qt_cmp opIs (qv 2 rfl v_fewest_pieces_cut) qe_non) (qb_one (qs_ret qe_non)) qb_nil)
    (qb_one (qs_ret (qe_op opAdd (qe_cB (kLen (K := K) rfl) g_fewest_pieces_len B.len boot_len' (qa_cons (qv 2 rfl v_fewest_pieces_cut) qa_nil)) qe_int)))))⟩
open M5 in
def fewV (b : Int) (ns : List Int) : V := if ns.all (fun n => decide (n ≤ b)) = true then .int ((lcut b 0 0 ns).length + 1) else .non
theorem fewV_ok {b : Int} {ns : List Int} (h : ∀ n ∈ ns, n ≤ b) : fewV b ns = .int ((M5.lcut b 0 0 ns).length + 1) := by
  unfold fewV; rw [if_pos]; rw [List.all_eq_true]; intro n hn; exact decide_eq_true (h n hn)
theorem fewV_no {b : Int} {ns : List Int} (h : ∃ n ∈ ns, b < n) : fewV b ns = .non := by
  obtain ⟨n, hn, hb⟩ := h
  unfold fewV; rw [if_neg]; rw [List.all_eq_true]; intro h; have := of_decide_eq_true (h n hn); omega
def sp_fewest_pieces : Sp := fun vs H Q _ => ∃ (r : Addr) (b : Int) (ns : List Int), vs = [.ref r, .int b] ∧ H r = some (.lst (ns.map V.int)) ∧ ns ≠ [] ∧ ns.length ≤ 1000 ∧ ∀ H', Same H H' → Q (fewV b ns) H'
theorem ok_fewest_pieces (B : Bl mg) (D_long_cut : Def P w K mg base 1 "long_cut" ["row", "bound"] sp_long_cut) (F : Fun K "fewest_pieces" "fewest_pieces" s_fewest_pieces f fd) : FnOk P w K mg base CX0 2 f fd ["row", "bound"] sp_fewest_pieces := by
  refine F.okq sc_fewest_pieces (fun vs H Q E h => ?_) (fun cdv A outer s H vs Q E hr h => ?_)
  · obtain ⟨r, b, ns, rfl, _⟩ := h; rfl
  obtain ⟨r, b, ns, rfl, hr0, hne, hle, q⟩ := h
  refine ⟨t_fewest_pieces B D_long_cut hr, ?_⟩
  refine ⟨r, b, ns, rfl, hr0, hne, hle, fun h => ?_, fun h p H1 hp s1 e1 => ?_⟩
  · refine bT ?_
    have := q H (Same.refl H)
    rw [fewV_no h] at this; exact this
  · refine bF (i_lenI e1 ?_)
    have := q H1 s1
    rw [fewV_ok h] at this; exact this

end
end K

set_option linter.all false
set_option Elab.async false
set_option maxRecDepth 100000
set_option maxHeartbeats 4000000
namespace K
open PySem L2
section
variable {C : Addr} {P : Program} {w : World} {K : PySem.W.Frag} {mg : Str → Option Value} {base : Heap} {f : Addr} {fd : FuncData}

abbrev s_least_bound : Stmt := top 13
theorem sc_least_bound : FnScope ["row", "many", "low", "high", "middle"] ["row", "many"] (defScope s_least_bound) := ⟨rfl, rfl, rfl, by decide +kernel, rfl, by decide +kernel, by decide +kernel⟩
theorem l_least_bound_high : Loc (defScope s_least_bound) "high" := Or.inl (by kernel_rfl)
theorem l_least_bound_low : Loc (defScope s_least_bound) "low" := Or.inl (by kernel_rfl)
theorem l_least_bound_middle : Loc (defScope s_least_bound) "middle" := Or.inl (by kernel_rfl)
theorem v_least_bound_high : Vis (defScope s_least_bound) "high" := Or.inl (by kernel_rfl)
theorem v_least_bound_low : Vis (defScope s_least_bound) "low" := Or.inl (by kernel_rfl)
theorem v_least_bound_many : Vis (defScope s_least_bound) "many" := Or.inl (by kernel_rfl)
theorem v_least_bound_middle : Vis (defScope s_least_bound) "middle" := Or.inl (by kernel_rfl)
theorem v_least_bound_row : Vis (defScope s_least_bound) "row" := Or.inl (by kernel_rfl)
theorem g_least_bound_fewest_pieces : (defScope s_least_bound).names.lookup ("fewest_pieces" : Str) = some NameKind.globalImplicit := by kernel_rfl
theorem g_least_bound_max : (defScope s_least_bound).names.lookup ("max" : Str) = some NameKind.globalImplicit := by kernel_rfl
theorem g_least_bound_sum : (defScope s_least_bound).names.lookup ("sum" : Str) = some NameKind.globalImplicit := by kernel_rfl
def t_least_bound {cdv : Value} {A : Around} {outer : List Env} {s : Shared} {H : Hp} {E : XK} (B : Bl mg) (D_fewest_pieces : Def P w K mg base 2 "fewest_pieces" ["row", "bound"] sp_fewest_pieces) (hr : Room 2 (A.deeper (PyProof.Rows.envOfC "least_bound" (defScope s_least_bound) s.heap.objs.size f cdv))) :
    { t : TS // QB (cxOf CX0 P w K mg base ["row", "many", "low", "high", "middle"] "least_bound" (defScope s_least_bound) f cdv A outer s H E).nox (defBody s_least_bound) t } :=
  ⟨_, (qb_cons (qs_set (i := 2) sc_least_bound.nd rfl l_least_bound_low (.inl rfl) (qe_cB (kMax (K := K) rfl rfl) g_least_bound_max B.max boot_max' (qa_cons (qv 0 rfl v_least_bound_row) qa_nil)))
    (qb_cons (qs_set (i := 3) sc_least_bound.nd rfl l_least_bound_high (.inl rfl) (qe_cB (kSum (K := K) rfl rfl) g_least_bound_sum B.sum boot_sum' (qa_cons (qv 0 rfl v_least_bound_row) qa_nil)))
    (qb_mid (qs_while PassesOwn.never (qt_cmp opLt (qv 2 rfl v_least_bound_low) (qv 3 rfl v_least_bound_high)) (qb_cons (qs_set (i := 4) sc_least_bound.nd rfl l_least_bound_middle (.inl rfl) (qe_op opFdiv (qe_op opAdd (qv 2 rfl v_least_bound_low) (qv 3 rfl v_least_bound_high)) qe_int))
    (qb_one (qs_if (qt_cmp opLe (qe_def D_fewest_pieces hr (by decide) g_least_bound_fewest_pieces (qa_cons (qv 0 rfl v_least_bound_row) (qa_cons (qv 4 rfl v_least_bound_middle) qa_nil))) (qv 1 rfl v_least_bound_many)) (qb_one (qs_set (i := 3) sc_least_bound.nd rfl l_least_bound_high (.inl rfl) (qv 4 rfl v_least_bound_middle))) (qb_one (qs_set (i := 2) sc_least_bound.nd rfl l_least_bound_low (.inl rfl) (qe_op opAdd (qv 4 rfl v_least_bound_middle) qe_int)))))))
    (qb_one (qs_ret (qv 2 rfl v_least_bound_low))))))⟩
open M5 M10 M11 M7
theorem row_sum' {ns : List Int} (h : RowN ns) : 0 ≤ ns.sum ∧ ns.sum ≤ 120000000000000000 := by
  have key : ∀ l : List Int, (∀ n ∈ l, 0 ≤ n) → (∀ n ∈ l, n ≤ 1000000000000000) → 0 ≤ l.sum ∧ l.sum ≤ 1000000000000000 * l.length := by
    intro l
    induction l with
    | nil => intro _ _; simp
    | cons x l ih =>
      intro h0 h1
      obtain ⟨a, b⟩ := ih (fun n hn => h0 n (List.mem_cons_of_mem _ hn)) fun n hn => h1 n (List.mem_cons_of_mem _ hn)
      have := h0 x List.mem_cons_self
      have := h1 x List.mem_cons_self
      rw [List.sum_cons, List.length_cons]
      omega
  have := key ns h.nn h.ub
  have := h.le
  omega
def sp_least_bound : Sp := fun vs H Q _ => ∃ (r : Addr) (m : Nat) (ns : List Int) (t : Int), vs = [.ref r, .int m] ∧ H r = some (.lst (ns.map V.int)) ∧ RowN ns ∧ 1 ≤ m ∧ m ≤ ns.length ∧ T 0 ns (m - 1) 0 = some t ∧ ∀ H', Same H H' → 0 ≤ t → t ≤ 120000000000000000 → (∀ n ∈ ns, n ≤ t) → Q (.int t) H'
theorem ok_least_bound (B : Bl mg) (D_fewest_pieces : Def P w K mg base 2 "fewest_pieces" ["row", "bound"] sp_fewest_pieces) (F : Fun K "least_bound" "least_bound" s_least_bound f fd) : FnOk P w K mg base CX0 3 f fd ["row", "many"] sp_least_bound := by
  refine F.okq sc_least_bound (fun vs H Q E h => ?_) (fun cdv A outer s H vs Q E hr h => ?_)
  · obtain ⟨r, m, ns, t, rfl, _⟩ := h; rfl
  obtain ⟨r, m, ns, t, rfl, hr0, rn, hm1, hmn, hT, q⟩ := h
  refine ⟨t_least_bound B D_fewest_pieces hr, ?_⟩
  have hnn := rn.nn
  have hle : ns.length ≤ 1000 := by have := rn.le; omega
  have hne : ns ≠ [] := fun z => by have := rn.ne; rw [z] at this; simp at this
  have hiff : ∀ b, t ≤ b ↔ (∀ x ∈ ns, x ≤ b) ∧ gp b ns ≤ m := fun b => by
    have := T_iff0 hnn b (k := m - 1) (i := 0) (by omega) hT
    rw [show m - 1 + 1 = m by omega, List.drop_zero] at this; exact this
  have hall := ((hiff t).mp (Int.le_refl t)).1
  have hsum := row_sum' rn
  have hts : t ≤ ns.sum := by
    refine (hiff _).mpr ⟨fun x hx => mem_le_sum hnn x hx, ?_⟩
    unfold gp
    rw [if_neg hne, lcut_nil _ 0 0 hnn (by omega)]
    simp; omega
  refine i_max (SqL.of hr0) hne fun M hM hmax => i_sum (SqL.of hr0) ?_
  have hMt : M ≤ t := hall M hM
  have hM0 := hnn M hM
  refine ⟨fun σ H' => Same H H' ∧ ∃ o3 o4, σ = [some (.ref r), some (.int m), some (.int t), o3, o4], ?_, ?_⟩
  · refine while_m (fun mm σ H' => ∃ lo hi : Int, ∃ o4, M ≤ lo ∧ lo ≤ t ∧ t ≤ hi ∧ hi ≤ ns.sum ∧ mm = (hi - lo).toNat ∧ Same H H' ∧ σ = [some (.ref r), some (.int m), some (.int lo), some (.int hi), o4]) _ ⟨M, ns.sum, _, Int.le_refl M, hMt, hts, Int.le_refl _, rfl, Same.refl H, rfl⟩ ?_
    rintro mm σ H1 ⟨lo, hi, o4, h1, h2, h3, h4, rfl, s1, rfl⟩
    refine dec2 (fun c => ?_) (fun c => ?_)
    · refine ⟨⟨by decide, by decide⟩, r, (lo + hi) / 2, ns, rfl, s1 _ _ hr0, hne, hle, fun H2 s2 => ?_⟩
      have hmid : ∀ n ∈ ns, n ≤ (lo + hi) / 2 := fun n hn => by have := hmax n hn; omega
      have hi2 := hiff ((lo + hi) / 2)
      have hgp : gp ((lo + hi) / 2) ns = (lcut ((lo + hi) / 2) 0 0 ns).length + 1 := by unfold gp; rw [if_neg hne]
      rw [fewV_ok hmid]
      refine dec2 (fun c2 => ?_) (fun c2 => ?_)
      · have := hi2.mpr ⟨hmid, by omega⟩
        exact ⟨((lo + hi) / 2 - lo).toNat, by omega, lo, (lo + hi) / 2, _, h1, h2, this, by omega, rfl, s1.trans s2, rfl⟩
      · have : ¬ t ≤ (lo + hi) / 2 := fun z => c2 (by have := (hi2.mp z).2; omega)
        exact ⟨(hi - ((lo + hi) / 2 + 1)).toNat, by omega, (lo + hi) / 2 + 1, hi, _, by omega, by omega, h3, h4, rfl, s1.trans s2, rfl⟩
    · have : lo = t := by omega
      subst this
      exact ⟨s1, _, _, rfl⟩
  · rintro σ H1 ⟨s1, o3, o4, rfl⟩
    exact q H1 s1 (by omega) (by omega) hall

abbrev s_earliest_begin : Stmt := top 15
theorem sc_earliest_begin : FnScope ["row", "ahead", "end", "bound", "begin", "total"] ["row", "ahead", "end", "bound"] (defScope s_earliest_begin) := ⟨rfl, rfl, rfl, by decide +kernel, rfl, by decide +kernel, by decide +kernel⟩
theorem l_earliest_begin_begin : Loc (defScope s_earliest_begin) "begin" := Or.inl (by kernel_rfl)
theorem l_earliest_begin_total : Loc (defScope s_earliest_begin) "total" := Or.inl (by kernel_rfl)
theorem v_earliest_begin_ahead : Vis (defScope s_earliest_begin) "ahead" := Or.inl (by kernel_rfl)
theorem v_earliest_begin_begin : Vis (defScope s_earliest_begin) "begin" := Or.inl (by kernel_rfl)
theorem v_earliest_begin_bound : Vis (defScope s_earliest_begin) "bound" := Or.inl (by kernel_rfl)
theorem v_earliest_begin_end : Vis (defScope s_earliest_begin) "end" := Or.inl (by kernel_rfl)
theorem v_earliest_begin_row : Vis (defScope s_earliest_begin) "row" := Or.inl (by kernel_rfl)
theorem v_earliest_begin_total : Vis (defScope s_earliest_begin) "total" := Or.inl (by kernel_rfl)
def t_earliest_begin {cdv : Value} {A : Around} {outer : List Env} {s : Shared} {H : Hp} {E : XK} (B : Bl mg) (hr : Room 0 (A.deeper (PyProof.Rows.envOfC "earliest_begin" (defScope s_earliest_begin) s.heap.objs.size f cdv))) :
    { t : TS // QB (cxOf CX0 P w K mg base ["row", "ahead", "end", "bound", "begin", "total"] "earliest_begin" (defScope s_earliest_begin) f cdv A outer s H E).nox (defBody s_earliest_begin) t } :=
  ⟨_, (qb_cons (qs_set (i := 4) sc_earliest_begin.nd rfl l_earliest_begin_begin (.inl rfl) (qe_op opSub (qv 2 rfl v_earliest_begin_end) qe_int))
    (qb_cons (qs_set (i := 5) sc_earliest_begin.nd rfl l_earliest_begin_total (.inl rfl) (ke_ix (K := K) rfl (qv 0 rfl v_earliest_begin_row) (qv 4 rfl v_earliest_begin_begin) (fun _ _ => rfl)))
    (qb_mid (qs_while PassesOwn.never (QW.pt (qw_and (qt_cmp opGt (qv 4 rfl v_earliest_begin_begin) (qv 1 rfl v_earliest_begin_ahead)) (qw_and1 (qt_cmp opLe (qe_op opAdd (qv 5 rfl v_earliest_begin_total) (ke_ix (K := K) rfl (qv 0 rfl v_earliest_begin_row) (qe_op opSub (qv 4 rfl v_earliest_begin_begin) qe_int) (fun _ _ => rfl))) (qv 3 rfl v_earliest_begin_bound))))) (qb_cons (qs_aug (i := 4) sc_earliest_begin.nd rfl l_earliest_begin_begin (.inl rfl) qe_int ipSub)
    (qb_one (qs_aug (i := 5) sc_earliest_begin.nd rfl l_earliest_begin_total (.inl rfl) (ke_ix (K := K) rfl (qv 0 rfl v_earliest_begin_row) (qv 4 rfl v_earliest_begin_begin) (fun _ _ => rfl)) ipAdd))))
    (qb_one (qs_ret (qv 4 rfl v_earliest_begin_begin))))))⟩
def sp_earliest_begin : Sp := fun vs H Q _ => ∃ (r : Addr) (a e : Nat) (b : Int) (ns : List Int), vs = [.ref r, .int a, .int e, .int b] ∧ H r = some (.lst (ns.map V.int)) ∧ a < e ∧ e ≤ ns.length ∧ (∀ n ∈ ns, n ≤ b) ∧
  ∀ y : Nat, a ≤ y → y < e → seg ns y e ≤ b → (y = a ∨ (1 ≤ y ∧ b < seg ns (y - 1) e)) → Q (.int y) H
theorem ok_earliest_begin (B : Bl mg) (F : Fun K "earliest_begin" "earliest_begin" s_earliest_begin f fd) : FnOk P w K mg base CX0 1 f fd ["row", "ahead", "end", "bound"] sp_earliest_begin := by
  refine F.okq sc_earliest_begin (fun vs H Q E h => ?_) (fun cdv A outer s H vs Q E hr h => ?_)
  · obtain ⟨r, a, e, b, ns, rfl, _⟩ := h; rfl
  obtain ⟨r, a, e, b, ns, rfl, hr0, hae, hen, hall, q⟩ := h
  refine ⟨t_earliest_begin B hr, ?_⟩
  have e1 : (((e : Int) - 1)).toNat = e - 1 := by omega
  refine i_ixI hr0 (by omega) (by omega) ?_
  rw [e1]
  have hs1 : seg ns (e - 1) e = ns.getD (e - 1) 0 := by
    rw [seg_step (show e - 1 < e by omega) hen, show e - 1 + 1 = e by omega, seg_self]; omega
  have hin : ns.getD (e - 1) 0 ≤ b := by
    refine hall _ ?_
    rw [List.getD_eq_getElem?_getD, List.getElem?_eq_getElem (show e - 1 < ns.length by omega)]
    exact List.getElem_mem _
  refine ⟨fun σ H' => H' = H ∧ ∃ y : Nat, a ≤ y ∧ y < e ∧ seg ns y e ≤ b ∧ (y = a ∨ (1 ≤ y ∧ b < seg ns (y - 1) e)) ∧ ∃ o5, σ = [some (.ref r), some (.int a), some (.int e), some (.int b), some (.int y), o5], ?_, ?_⟩
  · refine while_m (fun mm σ H' => H' = H ∧ ∃ y : Nat, a ≤ y ∧ y < e ∧ mm = y ∧ seg ns y e ≤ b ∧ σ = [some (.ref r), some (.int a), some (.int e), some (.int b), some (.int y), some (.int (seg ns y e))]) (e - 1) ⟨rfl, e - 1, by omega, by omega, rfl, by omega, by rw [hs1, show ((e - 1 : Nat) : Int) = (e : Int) - 1 by omega]; rfl⟩ ?_
    rintro mm σ H' ⟨rfl, y, h1, h2, hmm, h3, rfl⟩
    refine dec2 (fun c => ?_) (fun c => ?_)
    · have hst := seg_step (ns := ns) (k := y - 1) (e := e) (by omega) hen
      rw [show y - 1 + 1 = y by omega] at hst
      have ey : ((y : Int) - 1).toNat = y - 1 := by omega
      refine i_ixI hr0 (by omega) (by omega) ?_
      rw [ey]
      refine dec2 (fun c2 => ?_) (fun c2 => ?_)
      · refine i_ixI (i := (y : Int) - 1) hr0 (by omega) (by omega) ?_
        rw [ey]
        have e2 : ((y - 1 : Nat) : Int) = (y : Int) - 1 := by omega
        have hfin : seg ns (y - 1) e = seg ns y e + ns.getD (y - 1) 0 := by omega
        refine ⟨y - 1, by omega, rfl, y - 1, by omega, by omega, rfl, ?_, ?_⟩
        · have c2' : seg ns y e + ns.getD (y - 1) 0 ≤ b := c2
          omega
        · rw [e2, hfin]; rfl
      · have c2' : ¬ seg ns y e + ns.getD (y - 1) 0 ≤ b := c2
        exact ⟨rfl, y, h1, h2, h3, .inr ⟨by omega, by omega⟩, _, rfl⟩
    · exact bF ⟨rfl, y, h1, h2, h3, .inl (by omega), _, rfl⟩
  · rintro σ H' ⟨rfl, y, h1, h2, h3, h4, o5, rfl⟩
    exact q y h1 h2 h3 h4

end
end K

set_option linter.all false
set_option Elab.async false
set_option maxRecDepth 100000
set_option maxHeartbeats 4000000
namespace K
open PySem L2
section
variable {C : Addr} {P : Program} {w : World} {K : PySem.W.Frag} {mg : Str → Option Value} {base : Heap} {f : Addr} {fd : FuncData}

def worse (w : Nat) (o : Option Int) (b : Int) : Bool := match o with
  | none => true
  | some t => if w = 0 then decide (b < t) else decide (t < b)
open M5 M10 M11
/-- the first cut, place by place: left pieces behind the first one, which begins at i -/
inductive FirstCut (w : Nat) (ns : List Int) (t : Int) : Nat → Nat → List Int → Prop where
  | nil (i : Nat) : FirstCut w ns t 0 i []
  | step {l i e : Nat} {c : List Int} (h1 : i < e) (h2 : e < ns.length) (h3 : worse w (some (seg ns i e)) t = false) (h4 : worse w (T w ns l e) t = false)
      (h5 : ∀ j, i < j → j < e → worse w (some (seg ns i j)) t = true ∨ worse w (T w ns l j) t = true) (h6 : FirstCut w ns t l e c) : FirstCut w ns t (l + 1) i ((e : Int) :: c)
theorem FirstCut.len {w : Nat} {ns : List Int} {t : Int} {l i : Nat} {c : List Int} (h : FirstCut w ns t l i c) : c.length = l := by
  induction h with
  | nil => rfl
  | step _ _ _ _ _ _ ih => rw [List.length_cons, ih]

abbrev s_earliest_cut : Stmt := top 14
theorem sc_earliest_cut : FnScope ["row", "many", "bound", "places", "end", "ahead"] ["row", "many", "bound"] (defScope s_earliest_cut) := ⟨rfl, rfl, rfl, by decide +kernel, rfl, by decide +kernel, by decide +kernel⟩
theorem l_earliest_cut_ahead : Loc (defScope s_earliest_cut) "ahead" := Or.inl (by kernel_rfl)
theorem l_earliest_cut_end : Loc (defScope s_earliest_cut) "end" := Or.inl (by kernel_rfl)
theorem l_earliest_cut_places : Loc (defScope s_earliest_cut) "places" := Or.inl (by kernel_rfl)
theorem v_earliest_cut_ahead : Vis (defScope s_earliest_cut) "ahead" := Or.inl (by kernel_rfl)
theorem v_earliest_cut_bound : Vis (defScope s_earliest_cut) "bound" := Or.inl (by kernel_rfl)
theorem v_earliest_cut_end : Vis (defScope s_earliest_cut) "end" := Or.inl (by kernel_rfl)
theorem v_earliest_cut_many : Vis (defScope s_earliest_cut) "many" := Or.inl (by kernel_rfl)
theorem v_earliest_cut_places : Vis (defScope s_earliest_cut) "places" := Or.inl (by kernel_rfl)
theorem v_earliest_cut_row : Vis (defScope s_earliest_cut) "row" := Or.inl (by kernel_rfl)
theorem g_earliest_cut_earliest_begin : (defScope s_earliest_cut).names.lookup ("earliest_begin" : Str) = some NameKind.globalImplicit := by kernel_rfl
theorem g_earliest_cut_len : (defScope s_earliest_cut).names.lookup ("len" : Str) = some NameKind.globalImplicit := by kernel_rfl
theorem g_earliest_cut_range : (defScope s_earliest_cut).names.lookup ("range" : Str) = some NameKind.globalImplicit := by kernel_rfl
def t_earliest_cut {cdv : Value} {A : Around} {outer : List Env} {s : Shared} {H : Hp} {E : XK} (B : Bl mg) (D_earliest_begin : Def P w K mg base 1 "earliest_begin" ["row", "ahead", "end", "bound"] sp_earliest_begin) (hr : Room 1 (A.deeper (PyProof.Rows.envOfC "earliest_cut" (defScope s_earliest_cut) s.heap.objs.size f cdv))) :
    { t : TS // QB (cxOf CX0 P w K mg base ["row", "many", "bound", "places", "end", "ahead"] "earliest_cut" (defScope s_earliest_cut) f cdv A outer s H E).nox (defBody s_earliest_cut) t } :=
  ⟨_, (qb_cons (qs_set (i := 3) sc_earliest_cut.nd rfl l_earliest_cut_places (.inl rfl) (qe_lst qa_nil))
    (qb_cons (qs_set (i := 4) sc_earliest_cut.nd rfl l_earliest_cut_end (.inl rfl) (qe_cB (kLen (K := K) rfl) g_earliest_cut_len B.len boot_len' (qa_cons (qv 0 rfl v_earliest_cut_row) qa_nil)))
    (qb_mid (qs_for PassesOwn.never rfl (qi_r3 g_earliest_cut_range B.range (qa_cons (qe_op opSub (qv 1 rfl v_earliest_cut_many) qe_int) (qa_cons qe_int (qa_cons (qe_un unNeg qe_int) qa_nil)))) (qg_name (i := 5) sc_earliest_cut.nd rfl l_earliest_cut_ahead (.inl rfl)) (qb_cons (qs_set (i := 4) sc_earliest_cut.nd rfl l_earliest_cut_end (.inl rfl) (qe_def D_earliest_begin hr (by decide) g_earliest_cut_earliest_begin (qa_cons (qv 0 rfl v_earliest_cut_row) (qa_cons (qv 5 rfl v_earliest_cut_ahead) (qa_cons (qv 4 rfl v_earliest_cut_end) (qa_cons (qv 2 rfl v_earliest_cut_bound) qa_nil))))))
    (qb_one (qs_ex (ke_m1 (K := K) rfl PySem.F.plainAttrs_list PySem.F.slot_list_append PySem.F.type_list_append mtApp (qv 3 rfl v_earliest_cut_places) (qv 4 rfl v_earliest_cut_end))))))
    (qb_one (qs_ret (qe_rev (K := K) rfl (qv 3 rfl v_earliest_cut_places) (qo_some (qe_un unNeg qe_int))))))))⟩
open M5 M10 M11 M7
def sp_earliest_cut : Sp := fun vs H Q _ => ∃ (r : Addr) (m : Nat) (ns : List Int) (t : Int), vs = [.ref r, .int m, .int t] ∧ H r = some (.lst (ns.map V.int)) ∧ (∀ n ∈ ns, 0 ≤ n) ∧ ns.length ≤ 1000 ∧ (∀ n ∈ ns, n ≤ t) ∧ 1 ≤ m ∧ m ≤ ns.length ∧ T 0 ns (m - 1) 0 = some t ∧
  ∀ p c H', FirstCut 0 ns t (m - 1) 0 c → (∀ n ∈ c, 0 ≤ n ∧ n ≤ 1000) → H p = none → Same H H' → H' p = some (.lst (c.map V.int)) → Q (.ref p) H'
theorem ok_earliest_cut (B : Bl mg) (D_earliest_begin : Def P w K mg base 1 "earliest_begin" ["row", "ahead", "end", "bound"] sp_earliest_begin) (F : Fun K "earliest_cut" "earliest_cut" s_earliest_cut f fd) : FnOk P w K mg base CX0 2 f fd ["row", "many", "bound"] sp_earliest_cut := by
  refine F.okq sc_earliest_cut (fun vs H Q E h => ?_) (fun cdv A outer s H vs Q E hr h => ?_)
  · obtain ⟨r, m, ns, t, rfl, _⟩ := h; rfl
  obtain ⟨r, m, ns, t, rfl, hr0, hnn, hle, hall, hm1, hmn, hT, q⟩ := h
  refine ⟨t_earliest_cut B D_earliest_begin hr, ?_⟩
  refine i_newL (by show 0 ≤ sizeLine; decide) fun p H1 hp s1 e1 => ?_
  refine i_lenI (s1 _ _ hr0) ?_
  refine ⟨fun σ H' => Same H H' ∧ ∃ (c : List Int), FirstCut 0 ns t (m - 1) 0 c.reverse ∧ (∀ n ∈ c, 0 ≤ n ∧ n ≤ 1000) ∧ H' p = some (.lst (c.map V.int)) ∧ ∃ o4 o5, σ = [some (.ref r), some (.int m), some (.int t), some (.ref p), o4, o5], ?_, ?_⟩
  · refine ⟨rfl, ⟨by omega, by omega, by omega, by omega⟩, for_down (fun l σ H' => Same H H' ∧ l ≤ m - 1 ∧ ∃ (x : Nat) (c : List Int), Back ns t m l x ∧ c.length = l ∧ (∀ n ∈ c, 0 ≤ n ∧ n ≤ 1000) ∧ (∀ i, (l = 0 ∨ (m - l - 1 ≤ i ∧ i < x ∧ seg ns i x ≤ t)) → FirstCut 0 ns t l i c.reverse) ∧ H' p = some (.lst (c.map V.int)) ∧ ∃ o5, σ = [some (.ref r), some (.int m), some (.int t), some (.ref p), some (.int x), o5]) ?_ ?_ ?_⟩
    · exact ⟨s1, Nat.zero_le _, ns.length, [], Back.start ns t m, rfl, by simp, fun i _ => FirstCut.nil i, e1, _, rfl⟩
    · rintro l σ H2 hl ⟨s2, _, x, c, hb, hcl, hc1, hF, e2, o5, rfl⟩
      have hl' : l + 1 < m := by omega
      have hxl := hb.le
      have hxge : m - l - 1 < x := by
        by_cases z : l = 0
        · have := hb.at0 z; omega
        · have := hb.ge (by omega); omega
      have ea : ((m : Int) - 1 - l) = ((m - l - 1 : Nat) : Int) := by omega
      rw [ea]
      refine ⟨r, m - l - 1, x, t, ns, rfl, s2 _ _ hr0, hxge, by omega, hall, fun y h1 h2 h3 h4 => ?_⟩
      have hb' := hb.step hnn hl' hmn h1 h2 h3 h4
      refine ⟨i_tyL e2, i_appI e2 (by omega) fun H3 k3 e3 => ?_⟩
      refine ⟨s2.new k3 hp, by omega, y, c ++ [(y : Int)], hb', by simp [hcl], fun n hn => ?_, fun i hi => ?_, e3, _, rfl⟩
      · rcases List.mem_append.mp hn with hn | hn
        · exact hc1 n hn
        · have : n = (y : Int) := by simpa using hn
          omega
      · rcases hi with z | ⟨i1, i2, i3⟩
        · omega
        rw [List.reverse_append, List.reverse_singleton, List.singleton_append]
        obtain ⟨v, hv, hvt⟩ := hb'.fit l rfl
        refine FirstCut.step i2 (by omega) ?_ ?_ (fun j hj1 hj2 => .inr ?_) (hF y ?_)
        · simp only [worse]; rw [if_pos trivial]; exact decide_eq_false (by omega)
        · rw [hv]; simp only [worse]; rw [if_pos trivial]; exact decide_eq_false (by omega)
        · cases hTj : T 0 ns l j with
          | none => rfl
          | some u =>
            have := hb'.no l rfl j (by omega) hj2 u hTj
            simp only [worse]; rw [if_pos trivial]; exact decide_eq_true this
        · by_cases z : l = 0
          · exact .inl z
          · exact .inr ⟨h1, h2, h3⟩
    · rintro σ H2 ⟨s2, _, x, c, hb, hcl, hc1, hF, e2, o5, rfl⟩
      have en : ((m : Int) - 1 - 0).toNat = m - 1 := by omega
      rw [en] at hb hF hcl
      refine ⟨s2, c, hF 0 ?_, hc1, e2, _, _, rfl⟩
      by_cases z : m = 1
      · exact .inl (by omega)
      · obtain ⟨h1, h2⟩ := hb.top hnn (by omega) hmn hT
        exact .inr ⟨by omega, h1, h2⟩
  · rintro σ H2 ⟨s2, c, hF, hc1, e2, o4, o5, rfl⟩
    refine ⟨rfl, i_rev (SqL.of e2) fun p3 H3 hp3 s3 e3 => q p3 c.reverse H3 hF (fun n hn => hc1 n (by simpa using hn)) (s2.free hp3) (s2.trans s3) ?_⟩
    rw [e3, List.map_reverse]

end
end K

set_option linter.all false
set_option Elab.async false
set_option maxRecDepth 100000
set_option maxHeartbeats 4000000
namespace K
open PySem L2
section
variable {C : Addr} {P : Program} {w : World} {K : PySem.W.Frag} {mg : Str → Option Value} {base : Heap} {f : Addr} {fd : FuncData}

abbrev s_least_greatest : Stmt := top 12
theorem sc_least_greatest : FnScope ["row", "many", "bound"] ["row", "many"] (defScope s_least_greatest) := ⟨rfl, rfl, rfl, by decide +kernel, rfl, by decide +kernel, by decide +kernel⟩
theorem l_least_greatest_bound : Loc (defScope s_least_greatest) "bound" := Or.inl (by kernel_rfl)
theorem v_least_greatest_bound : Vis (defScope s_least_greatest) "bound" := Or.inl (by kernel_rfl)
theorem v_least_greatest_many : Vis (defScope s_least_greatest) "many" := Or.inl (by kernel_rfl)
theorem v_least_greatest_row : Vis (defScope s_least_greatest) "row" := Or.inl (by kernel_rfl)
theorem g_least_greatest_check_many : (defScope s_least_greatest).names.lookup ("check_many" : Str) = some NameKind.globalImplicit := by kernel_rfl
theorem g_least_greatest_earliest_cut : (defScope s_least_greatest).names.lookup ("earliest_cut" : Str) = some NameKind.globalImplicit := by kernel_rfl
theorem g_least_greatest_least_bound : (defScope s_least_greatest).names.lookup ("least_bound" : Str) = some NameKind.globalImplicit := by kernel_rfl
def t_least_greatest {cdv : Value} {A : Around} {outer : List Env} {s : Shared} {H : Hp} {E : XK} (B : Bl mg) (D_check_many : Def P w K mg base 3 "check_many" ["row", "many"] sp_check_many) (D_least_bound : Def P w K mg base 3 "least_bound" ["row", "many"] sp_least_bound) (D_earliest_cut : Def P w K mg base 2 "earliest_cut" ["row", "many", "bound"] sp_earliest_cut) (hr : Room 3 (A.deeper (PyProof.Rows.envOfC "least_greatest" (defScope s_least_greatest) s.heap.objs.size f cdv))) :
    { t : TS // QB (cxOf CX0 P w K mg base ["row", "many", "bound"] "least_greatest" (defScope s_least_greatest) f cdv A outer s H E).nox (defBody s_least_greatest) t } :=
  ⟨_, (qb_cons (qs_ex (qe_def D_check_many hr (by decide) g_least_greatest_check_many (qa_cons (qv 0 rfl v_least_greatest_row) (qa_cons (qv 1 rfl v_least_greatest_many) qa_nil))))
    (qb_cons (qs_set (i := 2) sc_least_greatest.nd rfl l_least_greatest_bound (.inl rfl) (qe_def D_least_bound hr (by decide) g_least_greatest_least_bound (qa_cons (qv 0 rfl v_least_greatest_row) (qa_cons (qv 1 rfl v_least_greatest_many) qa_nil))))
    (qb_one (qs_ret (qe_tup (qa_cons (qv 2 rfl v_least_greatest_bound) (qa_cons (qe_def D_earliest_cut hr (by decide) g_least_greatest_earliest_cut (qa_cons (qv 0 rfl v_least_greatest_row) (qa_cons (qv 1 rfl v_least_greatest_many) (qa_cons (qv 2 rfl v_least_greatest_bound) qa_nil)))) qa_nil)))))))⟩
open M5 M10 M11 M7
def sp_least_greatest : Sp := fun vs H Q _ => ∃ (r : Addr) (m : Nat) (ns : List Int) (t : Int), vs = [.ref r, .int m] ∧ H r = some (.lst (ns.map V.int)) ∧ RowN ns ∧ 1 ≤ m ∧ m ≤ ns.length ∧ T 0 ns (m - 1) 0 = some t ∧
  ∀ p pc c H', 0 ≤ t → t ≤ 120000000000000000 → FirstCut 0 ns t (m - 1) 0 c → (∀ n ∈ c, 0 ≤ n ∧ n ≤ 1000) → H p = none → H pc = none → Same H H' → H' p = some (.tup [.int t, .ref pc]) → H' pc = some (.lst (c.map V.int)) → Q (.ref p) H'
theorem ok_least_greatest (B : Bl mg) (D_check_many : Def P w K mg base 3 "check_many" ["row", "many"] sp_check_many) (D_least_bound : Def P w K mg base 3 "least_bound" ["row", "many"] sp_least_bound) (D_earliest_cut : Def P w K mg base 2 "earliest_cut" ["row", "many", "bound"] sp_earliest_cut)
    (F : Fun K "least_greatest" "least_greatest" s_least_greatest f fd) : FnOk P w K mg base CX0 4 f fd ["row", "many"] sp_least_greatest := by
  refine F.okq sc_least_greatest (fun vs H Q E h => ?_) (fun cdv A outer s H vs Q E hr h => ?_)
  · obtain ⟨r, m, ns, t, rfl, _⟩ := h; rfl
  obtain ⟨r, m, ns, t, rfl, hr0, rn, hm1, hmn, hT, q⟩ := h
  refine ⟨t_least_greatest B D_check_many D_least_bound D_earliest_cut hr, ?_⟩
  have hle : ns.length ≤ 1000 := by have := rn.le; omega
  refine ⟨r, m, _, rfl, hr0, by omega, by rw [List.length_map]; omega, ?_⟩
  refine ⟨r, m, ns, t, rfl, hr0, rn, hm1, hmn, hT, fun H1 s1 ht0 htb hall => ?_⟩
  refine ⟨r, m, ns, t, rfl, s1 _ _ hr0, rn.nn, hle, hall, hm1, hmn, hT, fun pc c H2 hF hc hpc s2 e2 => ?_⟩
  refine i_newT (by show 2 ≤ sizeLine; decide) fun p H3 hp s3 e3 => ?_
  exact q p pc c H3 ht0 htb hF hc ((s1.trans s2).free hp) (s1.free hpc) (s1.trans (s2.trans s3)) e3 (s3 _ _ e2)
end
end K

set_option linter.all false
set_option Elab.async false
set_option maxRecDepth 100000
set_option maxHeartbeats 4000000
namespace K
open PySem L2
section
variable {C : Addr} {P : Program} {w : World} {K : PySem.W.Frag} {mg : Str → Option Value} {base : Heap} {f : Addr} {fd : FuncData}

/-- a list of lists of ints, each one of its own -/
structure LL (H : Hp) (p : Addr) (ps : List Addr) (pss : List (List Int)) : Prop where
  at_ : H p = some (.lst (ps.map V.ref))
  nd : ps.Nodup
  np : p ∉ ps
  it : Paired (fun a ns => H a = some (.lst (List.map V.int ns))) ps pss
theorem pair_imp {α β : Type} {F G : α → β → Prop} : ∀ {l : List α} {m : List β}, Paired F l m → (∀ a ∈ l, ∀ b, F a b → G a b) → Paired G l m
  | _, _, .nil, _ => .nil
  | _, _, .cons r t, f => .cons (f _ List.mem_cons_self _ r) (pair_imp t fun a ha => f a (List.mem_cons_of_mem _ ha))
theorem pair_snoc {α β : Type} {F : α → β → Prop} {a : α} {b : β} (h : F a b) : ∀ {l : List α} {m : List β}, Paired F l m → Paired F (l ++ [a]) (m ++ [b])
  | _, _, .nil => .cons h .nil
  | _, _, .cons r t => .cons r (pair_snoc h t)
theorem pair_some {α β : Type} {F : α → β → Prop} : ∀ {l : List α} {m : List β}, Paired F l m → ∀ {a : α}, a ∈ l → ∃ b, F a b
  | _, _, .cons r t, a, h => by
    rcases List.mem_cons.mp h with rfl | h
    · exact ⟨_, r⟩
    · exact pair_some t h
section
variable {H H' : Hp} {p : Addr} {ps S : List Addr} {pss : List (List Int)}
theorem LL.len (h : LL H p ps pss) : ps.length = pss.length := Paired.length h.it
end
abbrev zs (cs : List Nat) : List Int := cs.map fun (n : Nat) => (n : Int)
theorem zs_at {cs : List Nat} {i : Nat} {x : V} (h : ((zs cs).map V.int)[i]? = some x) : ∃ n : Nat, x = .int n ∧ cs[i]? = some n := by
  obtain ⟨z, rfl, hz, _⟩ := vints_at h
  rw [List.getElem?_map] at hz
  cases e : cs[i]? with
  | none => rw [e] at hz; cases hz
  | some n => rw [e] at hz; cases hz; exact ⟨n, rfl, rfl⟩

theorem ref_at {as : List Addr} {i : Nat} {x : V} (h : (as.map V.ref)[i]? = some x) : ∃ b, as[i]? = some b ∧ x = .ref b := by
  rw [List.getElem?_map] at h
  cases e : as[i]? with
  | none => rw [e] at h; cases h
  | some b => rw [e] at h; cases h; exact ⟨b, rfl, rfl⟩
theorem pair_get {α β : Type} {F : α → β → Prop} {l : List α} {m : List β} (h : Paired F l m) {i : Nat} {a : α} (ha : l[i]? = some a) : ∃ b, m[i]? = some b ∧ F a b := by
  have hl := Paired.length h
  have hi := (List.getElem?_eq_some_iff.mp ha).1
  have hi2 : i < m.length := by omega
  exact ⟨m[i], List.getElem?_eq_getElem hi2, paired_at h i ha (List.getElem?_eq_getElem hi2)⟩

open M3 M5 M10 M11 M7 M34
theorem first_cut_ok {ns : List Int} {t : Int} {l i : Nat} {c : List Int} (h : FirstCut 0 ns t l i c) (hi : i < ns.length) (hw : worse 0 (T 0 ns l i) t = false) : ∃ cs : List Nat, c = zs cs ∧ cs.Pairwise (· < ·) ∧ (∀ x ∈ cs, i < x ∧ x < ns.length) ∧ ∀ q ∈ pcs ns i cs, q.sum ≤ t := by
  induction h with
  | nil i =>
    refine ⟨[], rfl, .nil, by simp, fun q hq => ?_⟩
    simp only [pcs, List.mem_singleton] at hq
    subst hq
    simp only [T, if_pos hi, worse, if_pos] at hw
    rw [← seg_all]
    have : ¬ t < seg ns i ns.length := of_decide_eq_false hw
    omega
  | step h1 h2 h3 h4 h5 h6 ih =>
    rename_i l i e c
    obtain ⟨cs, e1, e2, e3, e4⟩ := ih h2 h4
    refine ⟨e :: cs, by rw [e1]; rfl, List.pairwise_cons.mpr ⟨fun x hx => (e3 x hx).1, e2⟩, fun x hx => ?_, fun q hq => ?_⟩
    · rcases List.mem_cons.mp hx with rfl | hx
      · exact ⟨h1, h2⟩
      · have := e3 x hx; omega
    · simp only [pcs] at hq
      rcases List.mem_cons.mp hq with rfl | hq
      · rw [slice_seg (by omega)]
        simp only [worse, if_pos] at h3
        have : ¬ t < seg ns i e := of_decide_eq_false h3
        omega
      · exact e4 q hq

open M3 M5 M10 M11 M7 M34 M40
theorem first_lex {ns : List Int} {t : Int} {l i : Nat} {c : List Int} (h : FirstCut 0 ns t l i c) : ∀ cs : List Nat, c = zs cs → i < ns.length → ∀ ds : List Nat, ds.length = l → ds.Pairwise (· < ·) → (∀ d ∈ ds, i < d ∧ d < ns.length) → (∀ p ∈ pcs ns i ds, p.sum ≤ t) → ¬ Ahead ds cs := by
  induction h with
  | nil i =>
    intro cs e _ ds hl _ _ _ ha
    have : ds = [] := List.length_eq_zero_iff.mp hl
    subst this
    exact ha.elim
  | step h1 h2 h3 h4 h5 h6 ih =>
    rename_i l i e c
    intro cs ec hi ds hl hp hd hk ha
    cases cs with
    | nil => simp at ec
    | cons e' cs =>
      simp only [zs, List.map_cons, List.cons.injEq] at ec
      obtain ⟨e1, e2⟩ := ec
      have e1 : e = e' := by omega
      subst e1
      cases ds with
      | nil => exact ha.elim
      | cons d ds =>
        obtain ⟨p1, p2⟩ := List.pairwise_cons.mp hp
        have hd0 := hd d List.mem_cons_self
        have hin : ∀ x ∈ ds, d < x ∧ x < ns.length := fun x hx => ⟨p1 x hx, (hd x (List.mem_cons_of_mem _ hx)).2⟩
        have hk' : ∀ p ∈ pcs ns d ds, p.sum ≤ t := fun p hp => hk p (by simp only [pcs]; exact List.mem_cons_of_mem _ hp)
        rcases ha with ha | ⟨rfl, ha⟩
        · rcases h5 d hd0.1 ha with z | z
          · have := hk ((ns.drop i).take (d - i)) (by simp [pcs])
            rw [slice_seg (by omega)] at this
            simp only [worse, if_true, decide_eq_true_eq] at z
            omega
          · obtain ⟨v, hv, hvt⟩ := T_le l d ds (by simpa using hl) p2 hin hd0.2 hk'
            rw [hv] at z
            simp only [worse, if_true, decide_eq_true_eq] at z
            omega
        · exact ih cs e2 h2 ds (by simpa using hl) p2 hin hk' ha
theorem lg_facts {os : List Int} {m : Nat} {t : Int} {c : List Int} (m1 : 1 ≤ m) (mn : m ≤ os.length) (hT : T 0 os (m - 1) 0 = some t) (hF : FirstCut 0 os t (m - 1) 0 c) :
    ∃ cs : List Nat, c = zs cs ∧ CutN cs os.length ∧ cs.length + 1 = m ∧ (∀ p ∈ pcs os 0 cs, p.sum ≤ t) ∧ (∀ (ds : List Nat) (u : Int), CutN ds os.length → ds.length + 1 = m → (∀ p ∈ pcs os 0 ds, p.sum ≤ u) → t ≤ u) ∧ ∀ ds : List Nat, CutN ds os.length → ds.length + 1 = m → (∀ p ∈ pcs os 0 ds, p.sum ≤ t) → ¬ Ahead ds cs := by
  have hw : worse 0 (T 0 os (m - 1) 0) t = false := by rw [hT]; simp [worse]
  obtain ⟨cs, e1, e2, e3, e4⟩ := first_cut_ok hF (by omega) hw
  have hl := hF.len
  have hcl : cs.length = m - 1 := by rw [e1] at hl; simpa using hl
  refine ⟨cs, e1, ⟨e2, fun x hx => (e3 x hx).1, fun x hx => (e3 x hx).2⟩, by omega, e4, fun ds u h1 h2 h3 => ?_, fun ds h1 h2 h3 => ?_⟩
  · obtain ⟨v, hv, hvu⟩ := T_le (m - 1) 0 ds (by omega) h1.up (fun c hc => ⟨h1.lo c hc, h1.hi c hc⟩) (by omega) h3
    rw [hT] at hv
    cases hv
    exact hvu
  · exact first_lex hF cs e1 (by omega) ds (by omega) h1.up (fun c hc => ⟨h1.lo c hc, h1.hi c hc⟩) h3

end
end K

set_option linter.all false
set_option Elab.async false
set_option maxRecDepth 100000
set_option maxHeartbeats 4000000
namespace K
open PySem L2
section
variable {C : Addr} {P : Program} {w : World} {K : PySem.W.Frag} {mg : Str → Option Value} {base : Heap} {f : Addr} {fd : FuncData}

abbrev s_best_from : Stmt := top 19
theorem sc_best_from : FnScope ["row", "many", "first", "opened", "bound", "cut"] ["row", "many", "first"] (defScope s_best_from) := ⟨rfl, rfl, rfl, by decide +kernel, rfl, by decide +kernel, by decide +kernel⟩
theorem l_best_from_bound : Loc (defScope s_best_from) "bound" := Or.inl (by kernel_rfl)
theorem l_best_from_cut : Loc (defScope s_best_from) "cut" := Or.inl (by kernel_rfl)
theorem l_best_from_opened : Loc (defScope s_best_from) "opened" := Or.inl (by kernel_rfl)
theorem v_best_from_bound : Vis (defScope s_best_from) "bound" := Or.inl (by kernel_rfl)
theorem v_best_from_cut : Vis (defScope s_best_from) "cut" := Or.inl (by kernel_rfl)
theorem v_best_from_first : Vis (defScope s_best_from) "first" := Or.inr (Or.inl (by kernel_rfl))
theorem v_best_from_many : Vis (defScope s_best_from) "many" := Or.inl (by kernel_rfl)
theorem v_best_from_opened : Vis (defScope s_best_from) "opened" := Or.inl (by kernel_rfl)
theorem v_best_from_row : Vis (defScope s_best_from) "row" := Or.inl (by kernel_rfl)
theorem g_best_from_least_greatest : (defScope s_best_from).names.lookup ("least_greatest" : Str) = some NameKind.globalImplicit := by kernel_rfl
theorem g_best_from_sum : (defScope s_best_from).names.lookup ("sum" : Str) = some NameKind.globalImplicit := by kernel_rfl
def t_best_from {cdv : Value} {A : Around} {outer : List Env} {s : Shared} {H : Hp} {E : XK} (B : Bl mg) (D_least_greatest : Def P w K mg base 4 "least_greatest" ["row", "many"] sp_least_greatest) (hr : Room 4 (A.deeper (PyProof.Rows.envOfC "best_from" (defScope s_best_from) s.heap.objs.size f cdv))) :
    { t : TS // QB (cxOf CX0 P w K mg base ["row", "many", "first", "opened", "bound", "cut"] "best_from" (defScope s_best_from) f cdv A outer s H E).nox (defBody s_best_from) t } :=
  ⟨_, (qb_cons (qs_set (i := 3) sc_best_from.nd rfl l_best_from_opened (.inl rfl) (qe_op opAdd (ke_slice (K := K) rfl (qv 0 rfl v_best_from_row) (qo_some (qv 2 rfl v_best_from_first)) (qo_some (qe_un unNeg qe_int))) (qe_lst (qa_cons (qe_op opAdd (ke_ix (K := K) rfl (qv 0 rfl v_best_from_row) (qe_un unNeg qe_int) (fun _ _ => rfl)) (qe_cB (kSum (K := K) rfl rfl) g_best_from_sum B.sum boot_sum' (qa_cons (ke_slice (K := K) rfl (qv 0 rfl v_best_from_row) qo_none (qo_some (qv 2 rfl v_best_from_first))) qa_nil))) qa_nil))))
    (qb_cons (qs_asg (qe_def D_least_greatest hr (by decide) g_best_from_least_greatest (qa_cons (qv 3 rfl v_best_from_opened) (qa_cons (qv 1 rfl v_best_from_many) qa_nil))) (kg_tup (K := K) rfl rfl (qgs_cons (qg_name (i := 4) sc_best_from.nd rfl l_best_from_bound (.inl rfl)) (qgs_cons (qg_name (i := 5) sc_best_from.nd rfl l_best_from_cut (.inl rfl)) qgs_nil))))
    (qb_one (qs_ret (qe_tup (qa_cons (qv 4 rfl v_best_from_bound) (qa_cons (qe_op opAdd (qe_lst (qa_cons (qv 2 rfl v_best_from_first) qa_nil)) (qe_cp ["place", "first"] [none, some 2] rfl (ki_list (K := K) rfl (qv 5 rfl v_best_from_cut)) (fun _ _ _ _ _ _ => (qg_name (i := 0) (show (["place", "first"] : List Str).Nodup by decide +kernel) rfl (by first | exact Or.inl rfl | exact Or.inr rfl) (by first | exact .inl rfl | exact .inr rfl))) (fun _ _ _ _ _ _ => qif_nil) (fun _ _ _ _ _ _ => (qe_op opAdd (qv 1 rfl (by first | exact Or.inl rfl | exact Or.inr (Or.inl rfl) | exact Or.inr (Or.inr rfl))) (qv 0 rfl (by first | exact Or.inl rfl | exact Or.inr (Or.inl rfl) | exact Or.inr (Or.inr rfl))))))) qa_nil)))))))⟩
open M3 M5 M10 M11 M7 M34 M40 M25 M39
def sp_best_from : Sp := fun vs H Q _ => ∃ (r : Addr) (m f : Nat) (ns : List Int), vs = [.ref r, .int m, .int f] ∧ H r = some (.lst (ns.map V.int)) ∧ RowM ns ∧ 1 ≤ m ∧ f + m ≤ ns.length ∧
  ∀ (p pc : Addr) (v : Int) (qs : List Nat) (H' : Hp), FB ns m f v qs → 0 ≤ v → H p = none → H pc = none → p ≠ pc → Same H H' → H' p = some (.tup [.int v, .ref pc]) → H' pc = some (.lst ((zs qs).map V.int)) → Q (.ref p) H'
theorem cutV_mid (ns : List Int) {f : Nat} (h : f < ns.length) : cutV (ns.map V.int) (some (f : Int)) (some (-1)) = ((ns.drop f).dropLast).map V.int := by
  rw [cutV_ints, HT.sIx_nat, Nat.min_eq_left (Nat.le_of_lt h)]
  have e : HT.sIx ns.length ns.length (some (-1)) = ns.length - 1 := by
    unfold HT.sIx
    simp
    omega
  rw [e, List.dropLast_eq_take, List.length_drop]
  congr 2; omega
theorem opn_row {ns : List Int} (rn : RowM ns) {f : Nat} (h : f < ns.length) : RowN (opn ns f) := by
  have hl := opn_len h
  have hle := rn.le
  have hsum := S_bd rn.nn rn.ub f
  refine ⟨by omega, by omega, fun n hn => ?_, fun n hn => ?_⟩
  · unfold opn at hn
    rcases List.mem_append.mp hn with hn | hn
    · exact rn.nn n (List.mem_of_mem_drop (List.dropLast_sublist _ |>.subset hn))
    · have hln : ns.getLastD 0 ∈ ns := by
        have hne : ns ≠ [] := fun z => by rw [z] at h; simp at h
        rw [List.getLastD_eq_getLast?, List.getLast?_eq_some_getLast hne]; exact List.getLast_mem hne
      have := rn.nn _ hln
      have : n = ns.getLastD 0 + S ns f := by simpa using hn
      omega
  · unfold opn at hn
    rcases List.mem_append.mp hn with hn | hn
    · have := rn.ub n (List.mem_of_mem_drop (List.dropLast_sublist _ |>.subset hn)); omega
    · have hln : ns.getLastD 0 ∈ ns := by
        have hne : ns ≠ [] := fun z => by rw [z] at h; simp at h
        rw [List.getLastD_eq_getLast?, List.getLast?_eq_some_getLast hne]; exact List.getLast_mem hne
      have := rn.ub _ hln
      have : n = ns.getLastD 0 + S ns f := by simpa using hn
      omega
theorem ok_best_from (B : Bl mg) (D_least_greatest : Def P w K mg base 4 "least_greatest" ["row", "many"] sp_least_greatest) (F : Fun K "best_from" "best_from" s_best_from f fd) : FnOk P w K mg base CX0 5 f fd ["row", "many", "first"] sp_best_from := by
  refine F.okq sc_best_from (fun vs H Q E h => ?_) (fun cdv A outer s H vs Q E hr h => ?_)
  · obtain ⟨r, m, f, ns, rfl, _⟩ := h; rfl
  obtain ⟨r, m, f, ns, rfl, hr0, rn, m1, mn, q⟩ := h
  refine ⟨t_best_from B D_least_greatest hr, ?_⟩
  have hf : f < ns.length := by omega
  have hle := rn.le
  refine i_sl (SqL.of hr0) fun p1 H1 hp1 s1 e1 => ?_
  rw [cutV_mid ns hf] at e1
  have hr1 := s1 _ _ hr0
  have hne : ns ≠ [] := fun z => by rw [z] at hf; simp at hf
  have elast : ns.map V.int = ns.dropLast.map V.int ++ [.int (ns.getLastD 0)] := by
    have e : ns.getLastD 0 = ns.getLast hne := by rw [List.getLastD_eq_getLast?, List.getLast?_eq_some_getLast hne]; rfl
    conv => lhs; rw [← List.dropLast_concat_getLast hne]
    rw [List.map_append, e]; rfl
  have hr1' := hr1
  rw [elast] at hr1'
  refine i_ix (.inl (SqL.of hr1')) (atI_last _ _) ?_
  refine i_sl (SqL.of hr1) fun p2 H2 hp2 s2 e2 => ?_
  rw [cutV_ints, HT.sIx_none, HT.sIx_nat, Nat.min_eq_left (Nat.le_of_lt hf), List.drop_zero, Nat.sub_zero] at e2
  refine i_sum (SqL.of e2) ?_
  refine i_newL (by show 1 ≤ sizeLine; decide) fun p3 H3 hp3 s3 e3 => ?_
  refine i_cat (s3 _ _ (s2 _ _ e1)) e3 (sz_of (by simp; omega)) fun po H4 hpo s4 e4 => ?_
  have e4' : H4 po = some (.lst ((opn ns f).map V.int)) := by
    rw [e4]
    unfold opn
    rw [List.map_append]; rfl
  have s14 := s1.trans (s2.trans (s3.trans s4))
  have ro := opn_row rn hf
  have hol := opn_len hf
  obtain ⟨t, hT⟩ := T_some (w := 0) (ns := opn ns f) (k := m - 1) (i := 0) (by omega)
  refine ⟨po, m, opn ns f, t, rfl, e4', ro, m1, by omega, hT, fun p5 pc5 c H5 t0 _ hF _ hp5 hpc5 s5 e5 ec5 => ?_⟩
  obtain ⟨cs, rfl, hcut, hcl, hk, hmin, hfst⟩ := lg_facts m1 (by omega) hT hF
  rw [hol] at hcut
  refine i_unp e5 rfl ?_
  refine i_newL (by show 1 ≤ sizeLine; decide) fun p6 H6 hp6 s6 e6 => ?_
  have ec6 := s6 _ _ ec5
  have hcl1 := cut_len hcut
  refine ⟨⟨_, SqL.of ec6⟩, comp_lst ((zs cs).map V.int) (fun k D σ H' ys => ys = ((zs (cs.map (f + ·))).take k).map V.int ∧ Same H6 H' ∧ ∃ o, σ = [o, some (.int f)]) ?_ ?_ ?_ ?_⟩
  · intro D H' hD s' e'
    exact ⟨rfl, s', _, rfl⟩
  · rintro k D σ H' ys hD ⟨_, s', _⟩
    exact SqL.of (s' _ _ ec6)
  · rintro k x D σ H' ys hx hD ⟨rfl, s', o, rfl⟩ eD
    obtain ⟨z, rfl, hz⟩ := zs_at hx
    refine bT ⟨eD, sz_lt (by simp; omega), fun H7 k7 e7 => ⟨?_, s'.new k7 hD, _, rfl⟩⟩
    have hc : (zs (cs.map (f + ·)))[k]? = some ((f : Int) + z) := by
      rw [List.getElem?_map, List.getElem?_map, hz]
      simp
    rw [take_snoc hc, List.map_append]; rfl
  · rintro D σ H7 ys hD ⟨rfl, s7, _⟩ eD
    rw [List.take_of_length_le (by simp)] at eD
    refine i_cat (s7 _ _ e6) eD (sz_of (by simp; omega)) fun p8 H8 hp8 s8 e8 => ?_
    have e8' : H8 p8 = some (.lst ((zs (f :: cs.map (f + ·))).map V.int)) := e8
    refine i_newT (by show 2 ≤ sizeLine; decide) fun p9 H9 hp9 s9 e9 => ?_
    have s49 := s5.trans (s6.trans (s7.trans s8))
    have fb : FB ns m f t (f :: cs.map (f + ·)) := by
      refine ⟨cut_pl hf hcut, by simp [hcl], (opn_rk hf hcut).mp hk, fun ds u h1 h2 h3 => hmin ds u (by rw [hol]; exact h1) h2 ((opn_rk hf h1).mpr h3), fun ds h1 h2 h3 ha => ?_⟩
      refine hfst ds (by rw [hol]; exact h1) h2 ((opn_rk hf h1).mpr h3) ?_
      rcases ha with ha | ⟨_, ha⟩
      · exact absurd ha (Nat.lt_irrefl _)
      · exact ahead_map (fun x y h => by omega) ha
    refine q p9 p8 t _ H9 fb t0 ((s14.trans s49).free hp9) ((s14.trans (s5.trans (s6.trans s7))).free hp8) (ne_of_none e8 hp9).symm (s14.trans (s49.trans s9)) e9 (s9 _ _ e8')

end
end K

set_option linter.all false
set_option Elab.async false
set_option maxRecDepth 100000
set_option maxHeartbeats 4000000
namespace K
open PySem L2
section
variable {C : Addr} {P : Program} {w : World} {K : PySem.W.Frag} {mg : Str → Option Value} {base : Heap} {f : Addr} {fd : FuncData}

abbrev s_ring_least_greatest : Stmt := top 18
theorem sc_ring_least_greatest : FnScope ["row", "many"] ["row", "many"] (defScope s_ring_least_greatest) := ⟨rfl, rfl, rfl, by decide +kernel, rfl, by decide +kernel, by decide +kernel⟩
theorem v_ring_least_greatest_many : Vis (defScope s_ring_least_greatest) "many" := Or.inr (Or.inl (by kernel_rfl))
theorem v_ring_least_greatest_row : Vis (defScope s_ring_least_greatest) "row" := Or.inr (Or.inl (by kernel_rfl))
theorem g_ring_least_greatest_check_many : (defScope s_ring_least_greatest).names.lookup ("check_many" : Str) = some NameKind.globalImplicit := by kernel_rfl
theorem g_ring_least_greatest_len : (defScope s_ring_least_greatest).names.lookup ("len" : Str) = some NameKind.globalImplicit := by kernel_rfl
theorem g_ring_least_greatest_min : (defScope s_ring_least_greatest).names.lookup ("min" : Str) = some NameKind.globalImplicit := by kernel_rfl
theorem g_ring_least_greatest_range : (defScope s_ring_least_greatest).names.lookup ("range" : Str) = some NameKind.globalImplicit := by kernel_rfl
def t_ring_least_greatest {cdv : Value} {A : Around} {outer : List Env} {s : Shared} {H : Hp} {E : XK} (B : Bl mg) (D_check_many : Def P w K mg base 3 "check_many" ["row", "many"] sp_check_many) (D_best_from : Def P w K mg base 5 "best_from" ["row", "many", "first"] sp_best_from) (hr : Room 5 (A.deeper (PyProof.Rows.envOfC "ring_least_greatest" (defScope s_ring_least_greatest) s.heap.objs.size f cdv))) :
    { t : TS // QB (cxOf CX0 P w K mg base ["row", "many"] "ring_least_greatest" (defScope s_ring_least_greatest) f cdv A outer s H E).nox (defBody s_ring_least_greatest) t } :=
  ⟨_, (qb_cons (qs_ex (qe_def D_check_many hr (by decide) g_ring_least_greatest_check_many (qa_cons (qv 0 rfl v_ring_least_greatest_row) (qa_cons (qv 1 rfl v_ring_least_greatest_many) qa_nil))))
    (qb_one (qs_ret (qe_cB (kMinT hr rfl) g_ring_least_greatest_min B.min boot_min' (qa_cons (qe_cp ["first", "row", "many"] [none, some 0, some 1] rfl (qi_r1 g_ring_least_greatest_range B.range (qa_cons (qe_op opAdd (qe_op opSub (qe_cB (kLen (K := K) rfl) g_ring_least_greatest_len B.len boot_len' (qa_cons (qv 0 rfl v_ring_least_greatest_row) qa_nil)) (qv 1 rfl v_ring_least_greatest_many)) qe_int) qa_nil)) (fun _ _ _ _ _ _ => (qg_name (i := 0) (show (["first", "row", "many"] : List Str).Nodup by decide +kernel) rfl (by first | exact Or.inl rfl | exact Or.inr rfl) (by first | exact .inl rfl | exact .inr rfl))) (fun _ _ _ _ _ _ => qif_nil) (fun _ _ _ _ _ _ => (qe_def D_best_from hr (by decide) rfl (qa_cons (qv 1 rfl (by first | exact Or.inl rfl | exact Or.inr (Or.inl rfl) | exact Or.inr (Or.inr rfl))) (qa_cons (qv 2 rfl (by first | exact Or.inl rfl | exact Or.inr (Or.inl rfl) | exact Or.inr (Or.inr rfl))) (qa_cons (qv 0 rfl (by first | exact Or.inl rfl | exact Or.inr (Or.inl rfl) | exact Or.inr (Or.inr rfl))) qa_nil)))))) qa_nil)))))⟩
open M3 M40 M25 M39
def sp_ring_least_greatest : Sp := fun vs H Q _ => ∃ (r : Addr) (m : Nat) (ns : List Int), vs = [.ref r, .int m] ∧ H r = some (.lst (ns.map V.int)) ∧ RowM ns ∧ 1 ≤ m ∧ m ≤ ns.length ∧
  ∀ (p pc : Addr) (v : Int) (qs : List Nat) (H' : Hp), RB ns m v qs → 0 ≤ v → H p = none → H pc = none → Same H H' → H' p = some (.tup [.int v, .ref pc]) → H' pc = some (.lst ((zs qs).map V.int)) → Q (.ref p) H'
theorem ltI_ahead : ∀ {xs ys : List Nat}, xs.length = ys.length → Ahead xs ys → ltI (zs xs) (zs ys) = true
  | x :: xs, y :: ys, hl, h => by
    unfold ltI
    simp only [zs, List.map_cons, lexB]
    rcases h with h | ⟨rfl, h⟩
    · rw [if_neg (by omega)]
      simpa using h
    · rw [if_pos rfl]
      exact ltI_ahead (by simpa using hl) h
theorem ok_ring_least_greatest (B : Bl mg) (D_check_many : Def P w K mg base 3 "check_many" ["row", "many"] sp_check_many) (D_best_from : Def P w K mg base 5 "best_from" ["row", "many", "first"] sp_best_from) (F : Fun K "ring_least_greatest" "ring_least_greatest" s_ring_least_greatest f fd) : FnOk P w K mg base CX0 6 f fd ["row", "many"] sp_ring_least_greatest := by
  refine F.okq sc_ring_least_greatest (fun vs H Q E h => ?_) (fun cdv A outer s H vs Q E hr h => ?_)
  · obtain ⟨r, m, ns, rfl, _⟩ := h; rfl
  obtain ⟨r, m, ns, rfl, hr0, rn, m1, mn, q⟩ := h
  refine ⟨t_ring_least_greatest B D_check_many D_best_from hr, ?_⟩
  have hle := rn.le
  refine ⟨r, m, _, rfl, hr0, by omega, by rw [List.length_map]; omega, ?_⟩
  refine i_lenI hr0 ⟨⟨by omega, by omega⟩, comp_rng (fun i D σ H' ys => Same H H' ∧ (∃ ts : List Addr, ys = ts.map V.ref ∧ ts.length = i ∧ ∀ (j : Nat) t, ts[j]? = some t → t ≠ D ∧ H t = none ∧ ∃ (pc : Addr) (v : Int) (qs : List Nat), pc ≠ D ∧ H pc = none ∧ H' t = some (.tup [.int v, .ref pc]) ∧ H' pc = some (.lst ((zs qs).map V.int)) ∧ FB ns m j v qs ∧ 0 ≤ v) ∧ ∃ o, σ = [o, some (.ref r), some (.int m)]) ?_ ?_ ?_⟩
  · intro D H' hD s' e'
    exact ⟨s', ⟨[], rfl, rfl, by simp⟩, _, rfl⟩
  · rintro i D σ H' ys hi hD ⟨s', ⟨ts, rfl, htl, hts⟩, o, rfl⟩ eD
    have hi' : i + m ≤ ns.length := by omega
    refine bT ⟨r, m, i, ns, by rw [Int.zero_add]; rfl, s' _ _ hr0, rn, m1, hi', fun p pc v qs H1 fb v0 hp hpc npp s1 e1 ec1 => ?_⟩
    have npD : p ≠ D := (ne_of_none eD hp).symm
    have ncD : pc ≠ D := (ne_of_none eD hpc).symm
    refine ⟨s1 _ _ eD, sz_lt (by rw [List.length_map]; omega), fun H6 k6 e6 => ⟨(s'.trans s1).new k6 hD, ⟨ts ++ [p], by rw [List.map_append]; rfl, by simp [htl], fun j t ht => ?_⟩, _, rfl⟩⟩
    by_cases hjt : j < ts.length
    · rw [List.getElem?_append_left hjt] at ht
      obtain ⟨n1, n2, pc1, v1, q1, g1, g2, g3, g4, g5⟩ := hts j t ht
      exact ⟨n1, n2, pc1, v1, q1, g1, g2, k6.one n1 (s1 _ _ g3), k6.one g1 (s1 _ _ g4), g5⟩
    · rw [List.getElem?_append_right (by omega)] at ht
      have hj0 : j - ts.length = 0 := by
        by_cases h0 : j - ts.length = 0
        · exact h0
        · rw [List.getElem?_eq_none (by simp; omega)] at ht; cases ht
      rw [hj0] at ht
      obtain rfl : p = t := by simpa using ht
      have ej : j = i := by omega
      subst ej
      exact ⟨npD, s'.free hp, pc, v, qs, ncD, s'.free hpc, k6.one npD e1, k6.one ncD ec1, fb, v0⟩
  rintro D σ H2 ys hD ⟨s2, ⟨ts, rfl, htl, hts⟩, _⟩ e2
  have ex : ∀ j : Nat, ∃ vq : Int × List Nat, ∀ t, ts[j]? = some t → ∃ (pc : Addr), H t = none ∧ H pc = none ∧ H2 t = some (.tup [.int vq.1, .ref pc]) ∧ H2 pc = some (.lst ((zs vq.2).map V.int)) ∧ FB ns m j vq.1 vq.2 ∧ 0 ≤ vq.1 := fun j => by
    cases hj : ts[j]? with
    | none => exact ⟨(0, []), fun t h => nomatch h⟩
    | some t =>
      obtain ⟨_, n2, pc, v, qs, _, g2, g3, g4, g5⟩ := hts j t hj
      exact ⟨(v, qs), fun t' h => by cases h; exact ⟨pc, n2, g2, g3, g4, g5⟩⟩
  obtain ⟨f, hf⟩ := Classical.axiomOfChoice ex
  refine i_minT (fun j => [.n (f j).1, .s (zs (f j).2)]) e2 (fun z => by rw [z] at htl; simp at htl; omega) (fun j t ht => ?_) (fun a b _ _ _ => ⟨trivial, fun _ => ⟨trivial, fun _ => trivial⟩⟩) fun k t ht hmin => ?_
  · obtain ⟨pc, _, _, g2, g3, _⟩ := hf j t ht
    exact ⟨_, g2, .cons rfl (.cons ⟨pc, rfl, g3⟩ .nil)⟩
  · obtain ⟨pc, n1, n2, g2, g3, g4, g5⟩ := hf k t ht
    refine q t pc (f k).1 (f k).2 H2 (rb_of g4 fun j hj => ?_) g5 n1 n2 s2 g2 g3
    have hjl : j < ts.length := by omega
    obtain ⟨pc', _, _, _, _, k4, _⟩ := hf j _ (List.getElem?_eq_getElem hjl)
    refine ⟨(f j).1, (f j).2, k4, ?_⟩
    have h := hmin j hjl
    unfold ltT at h
    simp only [lexB] at h
    by_cases e : (f j).1 = (f k).1
    · rw [if_pos (by rw [e])] at h
      refine ⟨by omega, fun _ ha => ?_⟩
      have h2 := ltI_ahead (by rw [k4.len, g4.len]) ha
      by_cases e2 : zs (f j).2 = zs (f k).2
      · rw [e2, ltI_ord.irr] at h2; cases h2
      · rw [if_neg (fun z => e2 (by injection z))] at h
        have h' : ltI (zs (f j).2) (zs (f k).2) = false := h
        rw [h2] at h'; cases h'
    · rw [if_neg (fun z => e (by injection z))] at h
      have h' : decide ((f j).1 < (f k).1) = false := h
      simp at h'
      exact ⟨h', fun z => absurd z e⟩

end
end K

set_option linter.all false
set_option Elab.async false
set_option maxRecDepth 100000
set_option maxHeartbeats 4000000
namespace K
open PySem L2
section
variable {C : Addr} {P : Program} {w : World} {K : PySem.W.Frag} {mg : Str → Option Value} {base : Heap} {f : Addr} {fd : FuncData}

abbrev s_pieces : Stmt := top 6
theorem sc_pieces : FnScope ["row", "cut"] ["row", "cut"] (defScope s_pieces) := ⟨rfl, rfl, rfl, by decide +kernel, rfl, by decide +kernel, by decide +kernel⟩
theorem v_pieces_cut : Vis (defScope s_pieces) "cut" := Or.inl (by kernel_rfl)
theorem v_pieces_row : Vis (defScope s_pieces) "row" := Or.inr (Or.inl (by kernel_rfl))
theorem g_pieces_len : (defScope s_pieces).names.lookup ("len" : Str) = some NameKind.globalImplicit := by kernel_rfl
theorem g_pieces_zip : (defScope s_pieces).names.lookup ("zip" : Str) = some NameKind.globalImplicit := by kernel_rfl
def t_pieces {cdv : Value} {A : Around} {outer : List Env} {s : Shared} {H : Hp} {E : XK} (B : Bl mg) (hr : Room 0 (A.deeper (PyProof.Rows.envOfC "pieces" (defScope s_pieces) s.heap.objs.size f cdv))) :
    { t : TS // QB (cxOf CX0 P w K mg base ["row", "cut"] "pieces" (defScope s_pieces) f cdv A outer s H E).nox (defBody s_pieces) t } :=
  ⟨_, (qb_one (qs_ret (qe_cp ["begin", "end", "row"] [none, none, some 0] rfl (ki_zip (K := K) rfl g_pieces_zip B.zip (qa_cons (qe_op opAdd (qe_lst (qa_cons qe_int qa_nil)) (qv 1 rfl v_pieces_cut)) (qa_cons (qe_op opAdd (qv 1 rfl v_pieces_cut) (qe_lst (qa_cons (qe_cB (kLen (K := K) rfl) g_pieces_len B.len boot_len' (qa_cons (qv 0 rfl v_pieces_row) qa_nil)) qa_nil))) qa_nil))) (fun _ _ _ _ _ _ => (kg_tup (K := K) rfl rfl (qgs_cons (qg_name (i := 0) (show (["begin", "end", "row"] : List Str).Nodup by decide +kernel) rfl (by first | exact Or.inl rfl | exact Or.inr rfl) (by first | exact .inl rfl | exact .inr rfl)) (qgs_cons (qg_name (i := 1) (show (["begin", "end", "row"] : List Str).Nodup by decide +kernel) rfl (by first | exact Or.inl rfl | exact Or.inr rfl) (by first | exact .inl rfl | exact .inr rfl)) qgs_nil)))) (fun _ _ _ _ _ _ => qif_nil) (fun _ _ _ _ _ _ => (ke_slice (K := K) rfl (qv 2 rfl (by first | exact Or.inl rfl | exact Or.inr (Or.inl rfl) | exact Or.inr (Or.inr rfl))) (qo_some (qv 0 rfl (by first | exact Or.inl rfl | exact Or.inr (Or.inl rfl) | exact Or.inr (Or.inr rfl)))) (qo_some (qv 1 rfl (by first | exact Or.inl rfl | exact Or.inr (Or.inl rfl) | exact Or.inr (Or.inr rfl)))))))))⟩
open M3 in
def sp_pieces : Sp := fun vs H Q _ => ∃ (r c : Addr) (ns : List Int) (cs : List Nat), vs = [.ref r, .ref c] ∧ H r = some (.lst (ns.map V.int)) ∧ H c = some (.lst ((zs cs).map V.int)) ∧ ns.length ≤ 1000 ∧ CutN cs ns.length ∧
  ∀ (p : Addr) (ps : List Addr) (H' : Hp), (∀ a ∈ p :: ps, H a = none) → Same H H' → LL H' p ps (pcs ns 0 cs) → Q (.ref p) H'
open M3 in
theorem ok_pieces (B : Bl mg) (F : Fun K "pieces" "pieces" s_pieces f fd) : FnOk P w K mg base CX0 1 f fd ["row", "cut"] sp_pieces := by
  refine F.okq sc_pieces (fun vs H Q E h => ?_) (fun cdv A outer s H vs Q E hr h => ?_)
  · obtain ⟨r, c, ns, cs, rfl, _⟩ := h; rfl
  obtain ⟨r, c, ns, cs, rfl, hr0, hc0, hle, hcut, q⟩ := h
  have hcl := cut_len hcut
  refine ⟨t_pieces B hr, ?_⟩
  refine i_newL (by show 1 ≤ sizeLine; decide) fun p1 H1 hp1 s1 e1 => ?_
  refine i_cat e1 (s1 _ _ hc0) (sz_of (by simp; omega)) fun p2 H2 hp2 s2 e2 => ?_
  refine i_lenI (s2 _ _ (s1 _ _ hr0)) ?_
  refine i_newL (by show 1 ≤ sizeLine; decide) fun p3 H3 hp3 s3 e3 => ?_
  refine i_cat (s3 _ _ (s2 _ _ (s1 _ _ hc0))) e3 (sz_of (by simp; omega)) fun p4 H4 hp4 s4 e4 => ?_
  have sH : Same H H4 := s1.trans (s2.trans (s3.trans s4))
  have e2' : H4 p2 = some (.lst ((zs (0 :: cs)).map V.int)) := s4 _ _ (s3 _ _ e2)
  have e4' : H4 p4 = some (.lst ((zs (cs ++ [ns.length])).map V.int)) := by rw [e4]; simp
  refine ⟨⟨_, SqL.of e2'⟩, ⟨_, SqL.of e4'⟩, comp_zip ((zs (0 :: cs)).map V.int) ((zs (cs ++ [ns.length])).map V.int) (by simp) (fun k D σ H' ys => ∃ ps : List Addr, ys = ps.map V.ref ∧ Same H4 H' ∧ (∀ a ∈ ps, H4 a = none) ∧ ps.Nodup ∧ D ∉ ps ∧ Paired (fun a ns => H' a = some (.lst (List.map V.int ns))) ps ((pcs ns 0 cs).take k) ∧ ∃ o1 o2, σ = [o1, o2, some (.ref r)]) ?_ ?_ ?_ ?_⟩
  · intro D H' hD s' e'
    exact ⟨[], rfl, s', by simp, by simp, by simp, .nil, _, _, rfl⟩
  · rintro k D σ H' ys hD ⟨_, _, s', _⟩
    exact ⟨SqL.of (s' _ _ e2'), SqL.of (s' _ _ e4')⟩
  · rintro k x y T D σ H' H'' ys hx hy hD ⟨ps, rfl, s', hfr, hnd, hDp, hpr, o1, o2, rfl⟩ eD hT sT eT
    obtain ⟨x, rfl, hx1⟩ := zs_at hx
    obtain ⟨y, rfl, hy1⟩ := zs_at hy
    have hxl : x ≤ ns.length := by
      rcases List.mem_cons.mp (List.mem_of_getElem? hx1) with rfl | h
      · omega
      · exact Nat.le_of_lt (hcut.hi x h)
    have hyl : y ≤ ns.length := by
      rcases List.mem_append.mp (List.mem_of_getElem? hy1) with h | h
      · exact Nat.le_of_lt (hcut.hi y h)
      · simp at h; omega
    have hpk := pcs_at ns cs 0 k x y hx1 hy1
    refine i_unp eT rfl (bT ?_)
    refine i_sl (SqL.of (sT _ _ (s' _ _ (sH _ _ hr0)))) fun qa H6 hq s6 e6 => ?_
    rw [cutV_ints, HT.sIx_nat, HT.sIx_nat, Nat.min_eq_left hxl, Nat.min_eq_left hyl] at e6
    have hpl : ps.length ≤ 1001 := by
      have h1 := Paired.length hpr
      have h2 := pcs_len ns cs 0
      rw [List.length_take] at h1; omega
    have hqn : qa ∉ ps := fun hm => by
      obtain ⟨b, e⟩ := pair_some hpr hm
      have := sT _ _ e
      rw [hq] at this; cases this
    have hqD : qa ≠ D := (ne_of_none (sT _ _ eD) hq).symm
    refine ⟨s6 _ _ (sT _ _ eD), sz_lt (by rw [List.length_map]; omega), fun H7 k7 e7 => ?_⟩
    refine ⟨ps ++ [qa], by rw [List.map_append]; rfl, (s'.trans (sT.trans s6)).new k7 hD, fun a ha => ?_, ?_, ?_, ?_, _, _, rfl⟩
    · rcases List.mem_append.mp ha with ha | ha
      · exact hfr a ha
      · have : a = qa := by simpa using ha
        subst this; exact s'.free (sT.free hq)
    · exact List.nodup_append.mpr ⟨hnd, by simp, fun a ha b hb => by
        have : b = qa := by simpa using hb
        subst this; exact fun z => hqn (z ▸ ha)⟩
    · intro hm
      rcases List.mem_append.mp hm with hm | hm
      · exact hDp hm
      · exact hqD (by simpa using hm : D = qa).symm
    · rw [take_snoc hpk]
      exact pair_snoc (F := fun a ns => H7 a = some (.lst (List.map V.int ns))) (k7.one hqD e6) (pair_imp hpr fun a ha b e => k7.one (fun z => hDp (z ▸ ha)) (s6 _ _ (sT _ _ e)))
  · rintro D σ H' ys hD ⟨ps, rfl, s', hfr, hnd, hDp, hpr, _⟩ eD
    refine q D ps H' (fun a ha => ?_) (sH.trans s') ⟨eD, hnd, hDp, ?_⟩
    · rcases List.mem_cons.mp ha with rfl | ha
      · exact sH.free hD
      · exact sH.free (hfr a ha)
    · rw [List.take_of_length_le (by rw [pcs_len]; simp)] at hpr
      exact hpr

abbrev s_sums_of : Stmt := top 7
theorem sc_sums_of : FnScope ["row", "cut"] ["row", "cut"] (defScope s_sums_of) := ⟨rfl, rfl, rfl, by decide +kernel, rfl, by decide +kernel, by decide +kernel⟩
theorem v_sums_of_cut : Vis (defScope s_sums_of) "cut" := Or.inl (by kernel_rfl)
theorem v_sums_of_row : Vis (defScope s_sums_of) "row" := Or.inl (by kernel_rfl)
theorem g_sums_of_pieces : (defScope s_sums_of).names.lookup ("pieces" : Str) = some NameKind.globalImplicit := by kernel_rfl
def t_sums_of {cdv : Value} {A : Around} {outer : List Env} {s : Shared} {H : Hp} {E : XK} (B : Bl mg) (D_pieces : Def P w K mg base 1 "pieces" ["row", "cut"] sp_pieces) (hr : Room 1 (A.deeper (PyProof.Rows.envOfC "sums_of" (defScope s_sums_of) s.heap.objs.size f cdv))) :
    { t : TS // QB (cxOf CX0 P w K mg base ["row", "cut"] "sums_of" (defScope s_sums_of) f cdv A outer s H E).nox (defBody s_sums_of) t } :=
  ⟨_, (qb_one (qs_ret (qe_cp ["piece"] [none] rfl (ki_list (K := K) rfl (qe_def D_pieces hr (by decide) g_sums_of_pieces (qa_cons (qv 0 rfl v_sums_of_row) (qa_cons (qv 1 rfl v_sums_of_cut) qa_nil)))) (fun _ _ _ _ _ _ => (qg_name (i := 0) (show (["piece"] : List Str).Nodup by decide +kernel) rfl (by first | exact Or.inl rfl | exact Or.inr rfl) (by first | exact .inl rfl | exact .inr rfl))) (fun _ _ _ _ _ _ => qif_nil) (fun _ _ _ _ _ _ => (qe_cB (kSum (K := K) rfl rfl) rfl B.sum boot_sum' (qa_cons (qv 0 rfl (by first | exact Or.inl rfl | exact Or.inr (Or.inl rfl) | exact Or.inr (Or.inr rfl))) qa_nil))))))⟩
open M3 in
def sp_sums_of : Sp := fun vs H Q _ => ∃ (r c : Addr) (ns : List Int) (cs : List Nat), vs = [.ref r, .ref c] ∧ H r = some (.lst (ns.map V.int)) ∧ H c = some (.lst ((zs cs).map V.int)) ∧ ns.length ≤ 1000 ∧ CutN cs ns.length ∧
  ∀ (p : Addr) (H' : Hp), H p = none → Same H H' → H' p = some (.lst (((pcs ns 0 cs).map List.sum).map V.int)) → Q (.ref p) H'
open M3 in
theorem ok_sums_of (B : Bl mg) (D_pieces : Def P w K mg base 1 "pieces" ["row", "cut"] sp_pieces) (F : Fun K "sums_of" "sums_of" s_sums_of f fd) : FnOk P w K mg base CX0 2 f fd ["row", "cut"] sp_sums_of := by
  refine F.okq sc_sums_of (fun vs H Q E h => ?_) (fun cdv A outer s H vs Q E hr h => ?_)
  · obtain ⟨r, c, ns, cs, rfl, _⟩ := h; rfl
  obtain ⟨r, c, ns, cs, rfl, hr0, hc0, hle, hcut, q⟩ := h
  have hcl := cut_len hcut
  refine ⟨t_sums_of B D_pieces hr, ?_⟩
  refine ⟨r, c, ns, cs, rfl, hr0, hc0, hle, hcut, fun p ps H1 hf s1 ll => ?_⟩
  refine ⟨⟨_, SqL.of ll.at_⟩, comp_lst (ps.map V.ref) (fun k D σ H' ys => ys = (((pcs ns 0 cs).map List.sum).take k).map V.int ∧ Same H1 H' ∧ ∃ o, σ = [o]) ?_ ?_ ?_ ?_⟩
  · intro D H' hD s' e'
    exact ⟨rfl, s', _, rfl⟩
  · rintro k D σ H' ys hD ⟨_, s', _⟩
    exact SqL.of (s' _ _ ll.at_)
  · rintro k x D σ H' ys hx hD ⟨rfl, s', o, rfl⟩ eD
    obtain ⟨a, ha, rfl⟩ := ref_at hx
    obtain ⟨ms, hms, em⟩ := pair_get ll.it ha
    refine bT (i_sum (SqL.of (s' _ _ em)) ⟨eD, sz_lt (by rw [List.length_map, List.length_take, List.length_map, pcs_len]; omega), fun H6 k6 e6 => ⟨?_, s'.new k6 hD, _, rfl⟩⟩)
    rw [take_snoc (x := ms.sum) (by rw [List.getElem?_map, hms]; rfl), List.map_append]; rfl
  · rintro D σ H' ys hD ⟨rfl, s', _⟩ eD
    refine q D H' (s1.free hD) (s1.trans s') ?_
    rw [eD, List.take_of_length_le (by rw [List.length_map, List.length_map, ll.len]; exact Nat.le_refl _)]

abbrev s_ring_sums : Stmt := top 17
theorem sc_ring_sums : FnScope ["row", "places", "first"] ["row", "places"] (defScope s_ring_sums) := ⟨rfl, rfl, rfl, by decide +kernel, rfl, by decide +kernel, by decide +kernel⟩
theorem l_ring_sums_first : Loc (defScope s_ring_sums) "first" := Or.inr (by kernel_rfl)
theorem v_ring_sums_first : Vis (defScope s_ring_sums) "first" := Or.inr (Or.inl (by kernel_rfl))
theorem v_ring_sums_places : Vis (defScope s_ring_sums) "places" := Or.inl (by kernel_rfl)
theorem v_ring_sums_row : Vis (defScope s_ring_sums) "row" := Or.inl (by kernel_rfl)
theorem g_ring_sums_sums_of : (defScope s_ring_sums).names.lookup ("sums_of" : Str) = some NameKind.globalImplicit := by kernel_rfl
def t_ring_sums {cdv : Value} {A : Around} {outer : List Env} {s : Shared} {H : Hp} {E : XK} (B : Bl mg) (D_sums_of : Def P w K mg base 2 "sums_of" ["row", "cut"] sp_sums_of) (hr : Room 2 (A.deeper (PyProof.Rows.envOfC "ring_sums" (defScope s_ring_sums) s.heap.objs.size f cdv))) :
    { t : TS // QB (cxOf CX0 P w K mg base ["row", "places", "first"] "ring_sums" (defScope s_ring_sums) f cdv A outer s H E).nox (defBody s_ring_sums) t } :=
  ⟨_, (qb_cons (qs_set (i := 2) sc_ring_sums.nd rfl l_ring_sums_first (.inl rfl) (ke_ix (K := K) rfl (qv 1 rfl v_ring_sums_places) qe_int (fun _ _ => rfl)))
    (qb_one (qs_ret (qe_def D_sums_of hr (by decide) g_ring_sums_sums_of (qa_cons (qe_op opAdd (ke_slice (K := K) rfl (qv 0 rfl v_ring_sums_row) (qo_some (qv 2 rfl v_ring_sums_first)) qo_none) (ke_slice (K := K) rfl (qv 0 rfl v_ring_sums_row) qo_none (qo_some (qv 2 rfl v_ring_sums_first)))) (qa_cons (qe_cp ["place", "first"] [none, some 2] rfl (ki_list (K := K) rfl (ke_slice (K := K) rfl (qv 1 rfl v_ring_sums_places) (qo_some qe_int) qo_none)) (fun _ _ _ _ _ _ => (qg_name (i := 0) (show (["place", "first"] : List Str).Nodup by decide +kernel) rfl (by first | exact Or.inl rfl | exact Or.inr rfl) (by first | exact .inl rfl | exact .inr rfl))) (fun _ _ _ _ _ _ => qif_nil) (fun _ _ _ _ _ _ => (qe_op opSub (qv 0 rfl (by first | exact Or.inl rfl | exact Or.inr (Or.inl rfl) | exact Or.inr (Or.inr rfl))) (qv 1 rfl (by first | exact Or.inl rfl | exact Or.inr (Or.inl rfl) | exact Or.inr (Or.inr rfl)))))) qa_nil))))))⟩
open M3 M39
theorem cutV_fr (ns : List Int) {i : Nat} (h : i ≤ ns.length) : cutV (ns.map V.int) (some (i : Int)) none = (ns.drop i).map V.int := by
  rw [cutV_ints, HT.sIx_none, HT.sIx_nat, Nat.min_eq_left h, List.take_of_length_le (by rw [List.length_drop]; exact Nat.le_refl _)]
theorem cutV_tk (ns : List Int) {i : Nat} (h : i ≤ ns.length) : cutV (ns.map V.int) none (some (i : Int)) = (ns.take i).map V.int := by
  rw [cutV_ints, HT.sIx_none, HT.sIx_nat, Nat.min_eq_left h, List.drop_zero, Nat.sub_zero]
def sp_ring_sums : Sp := fun vs H Q _ => ∃ (r c : Addr) (ns : List Int) (qs : List Nat), vs = [.ref r, .ref c] ∧ H r = some (.lst (ns.map V.int)) ∧ H c = some (.lst ((zs qs).map V.int)) ∧ ns.length ≤ 120 ∧ PlR qs ns.length ∧
  ∀ (p : Addr) (H' : Hp), H p = none → Same H H' → H' p = some (.lst ((ringS ns qs).map V.int)) → Q (.ref p) H'
theorem ok_ring_sums (B : Bl mg) (D_sums_of : Def P w K mg base 2 "sums_of" ["row", "cut"] sp_sums_of) (F : Fun K "ring_sums" "ring_sums" s_ring_sums f fd) : FnOk P w K mg base CX0 3 f fd ["row", "places"] sp_ring_sums := by
  refine F.okq sc_ring_sums (fun vs H Q E h => ?_) (fun cdv A outer s H vs Q E hr h => ?_)
  · obtain ⟨r, c, ns, qs, rfl, _⟩ := h; rfl
  obtain ⟨r, c, ns, qs, rfl, hr0, hc0, hle, hpl, q⟩ := h
  refine ⟨t_ring_sums B D_sums_of hr, ?_⟩
  obtain ⟨f, rest, rfl⟩ : ∃ f r, qs = f :: r := by
    cases qs with
    | nil => have := hpl.ne; simp at this
    | cons f r => exact ⟨f, r, rfl⟩
  have hf := hpl.hi f List.mem_cons_self
  obtain ⟨hlt, hup⟩ := List.pairwise_cons.mp hpl.up
  have hcut := ring_cut hpl
  refine i_ixN (v := .int f) 0 hc0 rfl rfl ?_
  refine i_sl (SqL.of hr0) fun p1 H1 hp1 s1 e1 => i_sl (SqL.of (s1 _ _ hr0)) fun p2 H2 hp2 s2 e2 => ?_
  rw [cutV_fr _ (Nat.le_of_lt hf)] at e1
  rw [cutV_tk _ (Nat.le_of_lt hf)] at e2
  refine i_cat (s2 _ _ e1) e2 (sz_of (by simp; omega)) fun p3 H3 hp3 s3 e3 => ?_
  have e3' : H3 p3 = some (.lst ((rotN ns f).map V.int)) := by rw [e3, ← List.map_append]; rfl
  have s13 := s1.trans (s2.trans s3)
  refine i_sl (SqL.of (s13 _ _ hc0)) fun p4 H4 hp4 s4 e4 => ?_
  have e4' : H4 p4 = some (.lst ((zs rest).map V.int)) := by
    rw [e4, show (1 : Int) = ((1 : Nat) : Int) from rfl, cutV_fr _ (by simp)]; rfl
  have s14 := s13.trans s4
  have hrl : rest.length ≤ 120 := by
    have h1 := cut_len hcut
    unfold ringC at h1
    rw [List.length_map, List.length_tail, List.length_cons] at h1
    omega
  refine ⟨⟨_, SqL.of e4'⟩, comp_lst ((zs rest).map V.int) (fun k D σ H' ys => ys = ((zs (ringC (f :: rest))).take k).map V.int ∧ Same H4 H' ∧ ∃ o, σ = [o, some (.int f)]) ?_ ?_ ?_ ?_⟩
  · intro D H' hD s' e'
    exact ⟨rfl, s', _, rfl⟩
  · rintro k D σ H' ys hD ⟨_, s', _⟩
    exact SqL.of (s' _ _ e4')
  · rintro k x D σ H' ys hx hD ⟨rfl, s', o, rfl⟩ eD
    obtain ⟨z, rfl, hz⟩ := zs_at hx
    have hfz := hlt z (List.mem_of_getElem? hz)
    refine bT ⟨eD, sz_lt (by simp [ringC]; omega), fun H6 k6 e6 => ⟨?_, s'.new k6 hD, _, rfl⟩⟩
    have hc : (zs (ringC (f :: rest)))[k]? = some ((z : Int) - f) := by
      unfold ringC
      simp only [List.tail_cons, List.headD_cons]
      rw [List.getElem?_map, List.getElem?_map, hz]
      simp; omega
    rw [take_snoc hc, List.map_append]; rfl
  · rintro D σ H' ys hD ⟨rfl, s', _⟩ eD
    have eD' : H' D = some (.lst ((zs (ringC (f :: rest))).map V.int)) := by
      rw [eD, List.take_of_length_le (by simp [ringC])]
    have hrot := rot_len (ns := ns) (f := f) (by omega)
    refine ⟨p3, D, rotN ns f, ringC (f :: rest), rfl, s' _ _ (s4 _ _ e3'), eD', by omega, by rw [hrot]; exact hcut, fun p H5 hp s5 e5 => ?_⟩
    exact q p H5 (s14.free (s'.free hp)) ((s14.trans s').trans s5) e5

end
end K

set_option linter.all false
set_option Elab.async false
set_option maxRecDepth 100000
set_option maxHeartbeats 4000000
namespace K
open PySem L2
section
variable {C : Addr} {P : Program} {w : World} {K : PySem.W.Frag} {mg : Str → Option Value} {base : Heap} {f : Addr} {fd : FuncData}

abbrev s_law_right : Stmt := top 25
theorem sc_law_right : FnScope ["draws", "row", "many", "bound", "places", "sums", "turn", "turned", "told", "back_again", "end", "again", "other", "mirrored"] ["draws", "row", "many"] (defScope s_law_right) := ⟨rfl, rfl, rfl, by decide +kernel, rfl, by decide +kernel, by decide +kernel⟩
theorem l_law_right_again : Loc (defScope s_law_right) "again" := Or.inl (by kernel_rfl)
theorem l_law_right_back_again : Loc (defScope s_law_right) "back_again" := Or.inl (by kernel_rfl)
theorem l_law_right_bound : Loc (defScope s_law_right) "bound" := Or.inl (by kernel_rfl)
theorem l_law_right_end : Loc (defScope s_law_right) "end" := Or.inl (by kernel_rfl)
theorem l_law_right_mirrored : Loc (defScope s_law_right) "mirrored" := Or.inl (by kernel_rfl)
theorem l_law_right_other : Loc (defScope s_law_right) "other" := Or.inl (by kernel_rfl)
theorem l_law_right_places : Loc (defScope s_law_right) "places" := Or.inl (by kernel_rfl)
theorem l_law_right_sums : Loc (defScope s_law_right) "sums" := Or.inl (by kernel_rfl)
theorem l_law_right_told : Loc (defScope s_law_right) "told" := Or.inl (by kernel_rfl)
theorem l_law_right_turn : Loc (defScope s_law_right) "turn" := Or.inr (by kernel_rfl)
theorem l_law_right_turned : Loc (defScope s_law_right) "turned" := Or.inl (by kernel_rfl)
theorem v_law_right_again : Vis (defScope s_law_right) "again" := Or.inl (by kernel_rfl)
theorem v_law_right_back_again : Vis (defScope s_law_right) "back_again" := Or.inl (by kernel_rfl)
theorem v_law_right_bound : Vis (defScope s_law_right) "bound" := Or.inl (by kernel_rfl)
theorem v_law_right_draws : Vis (defScope s_law_right) "draws" := Or.inl (by kernel_rfl)
theorem v_law_right_end : Vis (defScope s_law_right) "end" := Or.inl (by kernel_rfl)
theorem v_law_right_many : Vis (defScope s_law_right) "many" := Or.inl (by kernel_rfl)
theorem v_law_right_mirrored : Vis (defScope s_law_right) "mirrored" := Or.inl (by kernel_rfl)
theorem v_law_right_other : Vis (defScope s_law_right) "other" := Or.inl (by kernel_rfl)
theorem v_law_right_places : Vis (defScope s_law_right) "places" := Or.inl (by kernel_rfl)
theorem v_law_right_row : Vis (defScope s_law_right) "row" := Or.inr (Or.inl (by kernel_rfl))
theorem v_law_right_sums : Vis (defScope s_law_right) "sums" := Or.inl (by kernel_rfl)
theorem v_law_right_told : Vis (defScope s_law_right) "told" := Or.inl (by kernel_rfl)
theorem v_law_right_turn : Vis (defScope s_law_right) "turn" := Or.inr (Or.inl (by kernel_rfl))
theorem v_law_right_turned : Vis (defScope s_law_right) "turned" := Or.inl (by kernel_rfl)
theorem g_law_right__law_take : (defScope s_law_right).names.lookup ("_law_take" : Str) = some NameKind.globalImplicit := by kernel_rfl
theorem g_law_right_len : (defScope s_law_right).names.lookup ("len" : Str) = some NameKind.globalImplicit := by kernel_rfl
theorem g_law_right_max : (defScope s_law_right).names.lookup ("max" : Str) = some NameKind.globalImplicit := by kernel_rfl
theorem g_law_right_ring_least_greatest : (defScope s_law_right).names.lookup ("ring_least_greatest" : Str) = some NameKind.globalImplicit := by kernel_rfl
theorem g_law_right_ring_sums : (defScope s_law_right).names.lookup ("ring_sums" : Str) = some NameKind.globalImplicit := by kernel_rfl
theorem g_law_right_set : (defScope s_law_right).names.lookup ("set" : Str) = some NameKind.globalImplicit := by kernel_rfl
theorem g_law_right_sorted : (defScope s_law_right).names.lookup ("sorted" : Str) = some NameKind.globalImplicit := by kernel_rfl
theorem g_law_right_sum : (defScope s_law_right).names.lookup ("sum" : Str) = some NameKind.globalImplicit := by kernel_rfl
def t_law_right {cdv : Value} {A : Around} {outer : List Env} {s : Shared} {H : Hp} {E : XK} (B : Bl mg) (D_ring_least_greatest : Def P w K mg base 6 "ring_least_greatest" ["row", "many"] sp_ring_least_greatest) (D_ring_sums : Def P w K mg base 3 "ring_sums" ["row", "places"] sp_ring_sums) (D_law_take : Def P w K mg base 1 "_law_take" ["draws", "many"] sp_law_take) (hr : Room 6 (A.deeper (PyProof.Rows.envOfC "_law_right" (defScope s_law_right) s.heap.objs.size f cdv))) :
    { t : TS // QB (cxOf CX0 P w K mg base ["draws", "row", "many", "bound", "places", "sums", "turn", "turned", "told", "back_again", "end", "again", "other", "mirrored"] "_law_right" (defScope s_law_right) f cdv A outer s H E).nox (defBody s_law_right) t } :=
  ⟨_, (qb_cons (qs_asg (qe_def D_ring_least_greatest hr (by decide) g_law_right_ring_least_greatest (qa_cons (qv 1 rfl v_law_right_row) (qa_cons (qv 2 rfl v_law_right_many) qa_nil))) (kg_tup (K := K) rfl rfl (qgs_cons (qg_name (i := 3) sc_law_right.nd rfl l_law_right_bound (.inl rfl)) (qgs_cons (qg_name (i := 4) sc_law_right.nd rfl l_law_right_places (.inl rfl)) qgs_nil))))
    (qb_cons (qs_set (i := 5) sc_law_right.nd rfl l_law_right_sums (.inl rfl) (qe_def D_ring_sums hr (by decide) g_law_right_ring_sums (qa_cons (qv 1 rfl v_law_right_row) (qa_cons (qv 4 rfl v_law_right_places) qa_nil))))
    (qb_cons (qs_if (QW.pt (qw_or (qt_cmp (kNeG (K := K) rfl hr) (qe_cB (kMax (K := K) rfl rfl) g_law_right_max B.max boot_max' (qa_cons (qv 5 rfl v_law_right_sums) qa_nil)) (qv 3 rfl v_law_right_bound)) (qw_or (qt_cmp (kNeG (K := K) rfl hr) (qe_cB (kSum (K := K) rfl rfl) g_law_right_sum B.sum boot_sum' (qa_cons (qv 5 rfl v_law_right_sums) qa_nil)) (qe_cB (kSum (K := K) rfl rfl) g_law_right_sum B.sum boot_sum' (qa_cons (qv 1 rfl v_law_right_row) qa_nil))) (qw_or (qt_cmp (kNeG (K := K) rfl hr) (qe_cB (kLen (K := K) rfl) g_law_right_len B.len boot_len' (qa_cons (qv 5 rfl v_law_right_sums) qa_nil)) (qv 2 rfl v_law_right_many)) (qw_or1 (qt_cmp (kNeG (K := K) rfl hr) (qe_cB (kLen (K := K) rfl) g_law_right_len B.len boot_len' (qa_cons (qv 4 rfl v_law_right_places) qa_nil)) (qv 2 rfl v_law_right_many))))))) (qb_one (qs_ret qe_bl)) qb_nil)
    (qb_cons (qs_if (QW.pt (qw_or (qt_cmp (kNeG (K := K) rfl hr) (qv 4 rfl v_law_right_places) (ke_setS (K := K) rfl rfl g_law_right_sorted B.sorted g_law_right_set B.set (qa_cons (qv 4 rfl v_law_right_places) qa_nil))) (qw_or1 (qt_not (qt_chain3 opLe opLe opLt qe_int (ke_ix (K := K) rfl (qv 4 rfl v_law_right_places) qe_int (fun _ _ => rfl)) (ke_ix (K := K) rfl (qv 4 rfl v_law_right_places) (qe_un unNeg qe_int) (fun _ _ => rfl)) (qe_cB (kLen (K := K) rfl) g_law_right_len B.len boot_len' (qa_cons (qv 1 rfl v_law_right_row) qa_nil))))))) (qb_one (qs_ret qe_bl)) qb_nil)
    (qb_cons (qs_set (i := 6) sc_law_right.nd rfl l_law_right_turn (.inl rfl) (qe_op opMod (qe_def D_law_take hr (by decide) g_law_right__law_take (qa_cons (qv 0 rfl v_law_right_draws) (qa_cons qe_int qa_nil))) (qe_cB (kLen (K := K) rfl) g_law_right_len B.len boot_len' (qa_cons (qv 1 rfl v_law_right_row) qa_nil))))
    (qb_cons (qs_set (i := 7) sc_law_right.nd rfl l_law_right_turned (.inl rfl) (qe_op opAdd (ke_slice (K := K) rfl (qv 1 rfl v_law_right_row) (qo_some (qv 6 rfl v_law_right_turn)) qo_none) (ke_slice (K := K) rfl (qv 1 rfl v_law_right_row) qo_none (qo_some (qv 6 rfl v_law_right_turn)))))
    (qb_cons (qs_set (i := 8) sc_law_right.nd rfl l_law_right_told (.inl rfl) (qe_def D_ring_least_greatest hr (by decide) g_law_right_ring_least_greatest (qa_cons (qv 7 rfl v_law_right_turned) (qa_cons (qv 2 rfl v_law_right_many) qa_nil))))
    (qb_cons (qs_set (i := 9) sc_law_right.nd rfl l_law_right_back_again (.inl rfl) (qe_cB (kSorted (K := K) rfl) g_law_right_sorted B.sorted boot_sorted' (qa_cons (qe_cp ["place", "turn", "row"] [none, some 6, some 1] rfl (ki_list (K := K) rfl (ke_ix (K := K) rfl (qv 8 rfl v_law_right_told) qe_int (fun _ _ => rfl))) (fun _ _ _ _ _ _ => (qg_name (i := 0) (show (["place", "turn", "row"] : List Str).Nodup by decide +kernel) rfl (by first | exact Or.inl rfl | exact Or.inr rfl) (by first | exact .inl rfl | exact .inr rfl))) (fun _ _ _ _ _ _ => qif_nil) (fun _ _ _ _ _ _ => (qe_op opMod (qe_op opAdd (qv 0 rfl (by first | exact Or.inl rfl | exact Or.inr (Or.inl rfl) | exact Or.inr (Or.inr rfl))) (qv 1 rfl (by first | exact Or.inl rfl | exact Or.inr (Or.inl rfl) | exact Or.inr (Or.inr rfl)))) (qe_cB (kLen (K := K) rfl) rfl B.len boot_len' (qa_cons (qv 2 rfl (by first | exact Or.inl rfl | exact Or.inr (Or.inl rfl) | exact Or.inr (Or.inr rfl))) qa_nil))))) qa_nil)))
    (qb_cons (qs_if (QW.pt (qw_or (qt_cmp (kNeG (K := K) rfl hr) (ke_ix (K := K) rfl (qv 8 rfl v_law_right_told) qe_int (fun _ _ => rfl)) (qv 3 rfl v_law_right_bound)) (qw_or (qt_cmp (kNeG (K := K) rfl hr) (qe_cB (kMax (K := K) rfl rfl) g_law_right_max B.max boot_max' (qa_cons (qe_def D_ring_sums hr (by decide) g_law_right_ring_sums (qa_cons (qv 1 rfl v_law_right_row) (qa_cons (qv 9 rfl v_law_right_back_again) qa_nil))) qa_nil)) (qv 3 rfl v_law_right_bound)) (qw_or1 (qt_cmp (kLtL (K := K) rfl hr) (qv 9 rfl v_law_right_back_again) (qv 4 rfl v_law_right_places)))))) (qb_one (qs_ret qe_bl)) qb_nil)
    (qb_cons (qs_if (qt_cmp (kLtL (K := K) rfl hr) (qe_cB (kSorted (K := K) rfl) g_law_right_sorted B.sorted boot_sorted' (qa_cons (qe_cp ["place", "turn", "row"] [none, some 6, some 1] rfl (ki_list (K := K) rfl (qv 4 rfl v_law_right_places)) (fun _ _ _ _ _ _ => (qg_name (i := 0) (show (["place", "turn", "row"] : List Str).Nodup by decide +kernel) rfl (by first | exact Or.inl rfl | exact Or.inr rfl) (by first | exact .inl rfl | exact .inr rfl))) (fun _ _ _ _ _ _ => qif_nil) (fun _ _ _ _ _ _ => (qe_op opMod (qe_op opSub (qv 0 rfl (by first | exact Or.inl rfl | exact Or.inr (Or.inl rfl) | exact Or.inr (Or.inr rfl))) (qv 1 rfl (by first | exact Or.inl rfl | exact Or.inr (Or.inl rfl) | exact Or.inr (Or.inr rfl)))) (qe_cB (kLen (K := K) rfl) rfl B.len boot_len' (qa_cons (qv 2 rfl (by first | exact Or.inl rfl | exact Or.inr (Or.inl rfl) | exact Or.inr (Or.inr rfl))) qa_nil))))) qa_nil)) (ke_ix (K := K) rfl (qv 8 rfl v_law_right_told) qe_int (fun _ _ => rfl))) (qb_one (qs_ret qe_bl)) qb_nil)
    (qb_cons (qs_set (i := 10) sc_law_right.nd rfl l_law_right_end (.inl rfl) (qe_op opSub (qe_cB (kLen (K := K) rfl) g_law_right_len B.len boot_len' (qa_cons (qv 1 rfl v_law_right_row) qa_nil)) (qv 6 rfl v_law_right_turn)))
    (qb_cons (qs_set (i := 11) sc_law_right.nd rfl l_law_right_again (.inl rfl) (qe_op opAdd (ke_slice (K := K) rfl (qv 7 rfl v_law_right_turned) (qo_some (qv 10 rfl v_law_right_end)) qo_none) (ke_slice (K := K) rfl (qv 7 rfl v_law_right_turned) qo_none (qo_some (qv 10 rfl v_law_right_end)))))
    (qb_cons (qs_if (qt_cmp (kNeG (K := K) rfl hr) (qe_def D_ring_least_greatest hr (by decide) g_law_right_ring_least_greatest (qa_cons (qv 11 rfl v_law_right_again) (qa_cons (qv 2 rfl v_law_right_many) qa_nil))) (qe_tup (qa_cons (qv 3 rfl v_law_right_bound) (qa_cons (qv 4 rfl v_law_right_places) qa_nil)))) (qb_one (qs_ret qe_bl)) qb_nil)
    (qb_cons (qs_set (i := 12) sc_law_right.nd rfl l_law_right_other (.inl rfl) (qe_def D_ring_least_greatest hr (by decide) g_law_right_ring_least_greatest (qa_cons (qe_rev (K := K) rfl (qv 1 rfl v_law_right_row) (qo_some (qe_un unNeg qe_int))) (qa_cons (qv 2 rfl v_law_right_many) qa_nil))))
    (qb_cons (qs_set (i := 13) sc_law_right.nd rfl l_law_right_mirrored (.inl rfl) (qe_cB (kSorted (K := K) rfl) g_law_right_sorted B.sorted boot_sorted' (qa_cons (qe_cp ["place", "row"] [none, some 1] rfl (ki_list (K := K) rfl (ke_ix (K := K) rfl (qv 12 rfl v_law_right_other) qe_int (fun _ _ => rfl))) (fun _ _ _ _ _ _ => (qg_name (i := 0) (show (["place", "row"] : List Str).Nodup by decide +kernel) rfl (by first | exact Or.inl rfl | exact Or.inr rfl) (by first | exact .inl rfl | exact .inr rfl))) (fun _ _ _ _ _ _ => qif_nil) (fun _ _ _ _ _ _ => (qe_op opMod (qe_op opSub (qe_cB (kLen (K := K) rfl) rfl B.len boot_len' (qa_cons (qv 1 rfl (by first | exact Or.inl rfl | exact Or.inr (Or.inl rfl) | exact Or.inr (Or.inr rfl))) qa_nil)) (qv 0 rfl (by first | exact Or.inl rfl | exact Or.inr (Or.inl rfl) | exact Or.inr (Or.inr rfl)))) (qe_cB (kLen (K := K) rfl) rfl B.len boot_len' (qa_cons (qv 1 rfl (by first | exact Or.inl rfl | exact Or.inr (Or.inl rfl) | exact Or.inr (Or.inr rfl))) qa_nil))))) qa_nil)))
    (qb_one (qs_ret (ke_and (K := K) rfl (qe_cmp (kEqG (K := K) rfl hr) (ke_ix (K := K) rfl (qv 12 rfl v_law_right_other) qe_int (fun _ _ => rfl)) (qv 3 rfl v_law_right_bound)) (ke_and (K := K) rfl (qe_cmp (kEqG (K := K) rfl hr) (qe_cB (kMax (K := K) rfl rfl) g_law_right_max B.max boot_max' (qa_cons (qe_def D_ring_sums hr (by decide) g_law_right_ring_sums (qa_cons (qv 1 rfl v_law_right_row) (qa_cons (qv 13 rfl v_law_right_mirrored) qa_nil))) qa_nil)) (qv 3 rfl v_law_right_bound)) (qe_one (qe_cmp (kGeL (K := K) rfl hr) (qv 13 rfl v_law_right_mirrored) (qv 4 rfl v_law_right_places))))))))))))))))))))))⟩
open M3 M40 M25 M39 M5 M10 M11 M7 M34
def pairD (t : Int) (c : List Int) : PyData := .tuple [.int t, intsD c]
theorem rv_pair {H : Hp} {p pc : Addr} {t : Int} {c : List Int} (h1 : H p = some (.tup [.int t, .ref pc])) (h2 : H pc = some (.lst (c.map V.int))) : RV 2 H (.ref p) (pairD t c) :=
  .inr ⟨_, _, .inl h1, rfl, .cons rfl (.cons (rv_ints h2) .nil)⟩
theorem ahead_of : ∀ {xs ys : List Nat}, xs.length = ys.length → ltI (zs xs) (zs ys) = true → Ahead xs ys
  | [], [], _, h => nomatch h
  | x :: xs, y :: ys, hl, h => by
    unfold ltI at h
    simp only [zs, List.map_cons, lexB] at h
    by_cases e : x = y
    · subst e
      rw [if_pos rfl] at h
      exact .inr ⟨rfl, ahead_of (by simpa using hl) h⟩
    · rw [if_neg (by omega)] at h
      exact .inl (by simpa using h)
theorem ge_of : ∀ {xs ys : List Nat}, xs.length = ys.length → ¬ Ahead xs ys → geL (zs xs) (zs ys) = true
  | [], [], _, _ => rfl
  | x :: xs, y :: ys, hl, h => by
    unfold geL
    simp only [zs, List.map_cons]
    by_cases e : x = y
    · subst e
      rw [if_pos rfl]
      exact ge_of (by simpa using hl) fun z => h (.inr ⟨rfl, z⟩)
    · rw [if_neg (by omega)]
      have : ¬ x < y := fun z => h (.inl z)
      simp; omega
/-- the greatest sum at places that keep to v -/
theorem ring_max {ns : List Int} {m : Nat} {v M : Int} {qs qs' : List Nat} (rb : RB ns m v qs) (h : PlR qs' ns.length) (hl : qs'.length = m) (hk : RK ns v qs') (hM : M ∈ ringS ns qs') (hmax : ∀ x ∈ ringS ns qs', x ≤ M) : M = v :=
  Int.le_antisymm ((ring_rk h).mpr hk M hM) (rb.least qs' M h hl ((ring_rk h).mp hmax))
theorem ring_ne {ns : List Int} {qs : List Nat} (h : PlR qs ns.length) : ringS ns qs ≠ [] := fun z => by
  have h1 := ring_len (ns := ns) h.ne
  rw [z, List.length_nil] at h1
  have h2 := h.ne
  omega
theorem zs_last {qs : List Nat} (h : 1 ≤ qs.length) : ∃ x ∈ qs, (∀ y, qs.head? = some y → qs.Pairwise (· < ·) → y ≤ x) ∧ atI ((zs qs).map V.int) (-1) = some (.int x) := by
  obtain ⟨l, x, rfl⟩ : ∃ l x, qs = l ++ [x] := by
    cases e : qs.reverse with
    | nil => simp at e; subst e; simp at h
    | cons x l => exact ⟨l.reverse, x, by rw [← List.reverse_reverse qs, e]; simp⟩
  refine ⟨x, by simp, fun y hy hp => ?_, ?_⟩
  · cases l with
    | nil => simp at hy; omega
    | cons z l =>
      simp at hy; subst hy
      exact Nat.le_of_lt ((List.pairwise_append.mp hp).2.2 z (by simp) x (by simp))
  · have e : (zs (l ++ [x])).map V.int = (zs l).map V.int ++ [.int x] := by simp [zs]
    rw [e]; exact atI_last _ _
def sp_law_right : Sp := fun vs H Q _ => ∃ (d r : Addr) (ns : List Int) (m : Nat), vs = [.ref d, .ref r, .int m] ∧ DrawsAt H d ∧ r ≠ d ∧ H r = some (.lst (ns.map V.int)) ∧ RowM ns ∧ 1 ≤ m ∧ m ≤ ns.length ∧
  ∀ (H' : Hp), DrawsAt H' d → Kp [d] H H' → Q (.bl true) H'
theorem ok_law_right (B : Bl mg) (D_ring_least_greatest : Def P w K mg base 6 "ring_least_greatest" ["row", "many"] sp_ring_least_greatest) (D_ring_sums : Def P w K mg base 3 "ring_sums" ["row", "places"] sp_ring_sums) (D_law_take : Def P w K mg base 1 "_law_take" ["draws", "many"] sp_law_take) (F : Fun K "_law_right" "_law_right" s_law_right f fd) : FnOk P w K mg base CX0 7 f fd ["draws", "row", "many"] sp_law_right := by
  refine F.okq sc_law_right (fun vs H Q E h => ?_) (fun cdv A outer s H vs Q E hr h => ?_)
  · obtain ⟨d, r, ns, m, rfl, _⟩ := h; rfl
  obtain ⟨d, r, ns, m, rfl, hd, nrd, hr0, rm, m1, mn, q⟩ := h
  refine ⟨t_law_right B D_ring_least_greatest D_ring_sums D_law_take hr, ?_⟩
  have rn := rm.row
  have hle := rm.le
  have hn0 : 0 < ns.length := by omega
  refine ⟨r, m, ns, rfl, hr0, rm, m1, mn, fun p pc v qs H1 rb v0 hp hpc s1 e1 ec1 => ?_⟩
  refine i_unp e1 rfl ?_
  have hd1 := hd.same s1
  have hr1 := s1 _ _ hr0
  have npd : pc ≠ d := (hd.ne hpc).symm
  refine ⟨r, pc, ns, qs, rfl, hr1, ec1, hle, rb.pl, fun su H2 hsu s2 e2 => ?_⟩
  have hr2 := s2 _ _ hr1
  have ec2 := s2 _ _ ec1
  have hql : qs.length ≤ 120 := by rw [rb.len]; omega
  have hzl : (zs qs).length = m := by simp [zs, rb.len]
  have hsl : (ringS ns qs).length = m := (ring_len rb.pl.ne).trans rb.len
  refine i_max (SqL.of e2) (ring_ne rb.pl) fun M hM hmax => ?_
  have eM := ring_max rb rb.pl rb.len rb.keep hM hmax
  subst eM
  refine bNo (by simp) (i_sum (SqL.of e2) (i_sum (SqL.of hr2) (bNo (by simp [M48.ring_sum rb.pl]) ?_)))
  refine i_lenI e2 (bNo (by simp [hsl]) (i_lenI ec2 (bNo (by simp [hzl]) ?_)))
  refine i_setS (SqL.of ec2) (by omega) fun ps H3 ms hnd hmem hsort hps s3 e3 => ?_
  have ems : ms = zs qs := M48.set_places rb.pl.up hnd hmem hsort
  subst ems
  have ec3 := s3 _ _ ec2
  have hr3 := s3 _ _ hr2
  refine i_eqI (SqL.of ec3) (SqL.of e3) (bNo (by simp) ?_)
  obtain ⟨f, rest, hqs⟩ : ∃ f r, qs = f :: r := by
    cases qs with
    | nil => have := rb.pl.ne; simp at this
    | cons f r => exact ⟨f, r, rfl⟩
  refine i_ixN (v := .int f) 0 ec3 rfl (by rw [hqs]; rfl) ?_
  obtain ⟨xl, hxl, hfx, hat⟩ := zs_last rb.pl.ne
  have hfx' : f ≤ xl := hfx f (by rw [hqs]; rfl) rb.pl.up
  have hxn := rb.pl.hi xl hxl
  refine dIs (by omega) (i_ix (.inl (SqL.of ec3)) hat (dIs (by omega) (i_lenI hr3 ?_)))
  refine bNo (by simp; omega) ?_
  have hd3 := (hd1.same s2).same s3
  refine ⟨d, 1000, rfl, hd3, by decide, fun g H4 g0 g1 hd4 k4 => ?_⟩
  have hr4 := k4.one nrd hr3
  have ec4 := k4.one npd ec3
  refine i_lenI hr4 ⟨by omega, ?_⟩
  obtain ⟨t, ht⟩ : ∃ t : Nat, g % (ns.length : Int) = t := ⟨(g % (ns.length : Int)).toNat, by have := Int.emod_nonneg g (by omega : (ns.length : Int) ≠ 0); omega⟩
  have htn : t < ns.length := by have := Int.emod_lt_of_pos g (by omega : 0 < (ns.length : Int)); omega
  rw [ht]
  refine i_sl (SqL.of hr4) fun p5 H5 hp5 s5 e5 => i_sl (SqL.of (s5 _ _ hr4)) fun p6 H6 hp6 s6 e6 => ?_
  rw [cutV_fr _ (Nat.le_of_lt htn)] at e5
  rw [cutV_tk _ (Nat.le_of_lt htn)] at e6
  refine i_cat (s6 _ _ e5) e6 (sz_of (by simp; omega)) fun p7 H7 hp7 s7 e7 => ?_
  have e7' : H7 p7 = some (.lst ((rotN ns t).map V.int)) := by rw [e7, ← List.map_append]; rfl
  have s47 := s5.trans (s6.trans s7)
  have hrl := rot_len (ns := ns) (Nat.le_of_lt htn)
  have rmr : RowM (rotN ns t) := by
    have hmem : ∀ n ∈ rotN ns t, n ∈ ns := fun n hn => by
      unfold rotN at hn
      rcases List.mem_append.mp hn with z | z
      · exact List.mem_of_mem_drop z
      · exact List.mem_of_mem_take z
    exact ⟨by omega, by omega, fun n hn => rm.nn n (hmem n hn), fun n hn => rm.ub n (hmem n hn)⟩
  refine ⟨p7, m, rotN ns t, rfl, e7', rmr, m1, by omega, fun p8 pc8 v8 qs8 H8 rb8 _ hp8 hpc8 s8 e8 ec8 => ?_⟩
  have ev8 : v8 = M := Int.le_antisymm ((rb8.iff M).mpr ((can_rot_iff (Nat.le_of_lt htn)).mpr ((rb.iff M).mp (Int.le_refl _)))) ((rb.iff v8).mpr ((can_rot_iff (Nat.le_of_lt htn)).mp ((rb8.iff v8).mp (Int.le_refl _))))
  subst ev8
  have pl8 : PlR qs8 ns.length := by have := rb8.pl; rwa [hrl] at this
  have hr8 := s8 _ _ (s47 _ _ hr4)
  have ec4_8 := s8 _ _ (s47 _ _ ec4)
  refine i_ixT (v := .ref pc8) 1 e8 rfl rfl ?_
  have hl8 : qs8.length ≤ 120 := by rw [rb8.len]; omega
  refine ⟨⟨_, SqL.of ec8⟩, comp_lst ((zs qs8).map V.int) (fun k D σ H' ys => ys = ((qs8.map fun p => (((p + t) % ns.length : Nat) : Int)).take k).map V.int ∧ Same H8 H' ∧ ∃ o, σ = [o, some (.int t), some (.ref r)]) ?_ ?_ ?_ ?_⟩
  · intro D H' hD s' e'
    exact ⟨rfl, s', _, rfl⟩
  · rintro k D σ H' ys hD ⟨_, s', _⟩
    exact SqL.of (s' _ _ ec8)
  · rintro k x D σ H' ys hx hD ⟨rfl, s', o, rfl⟩ eD
    obtain ⟨z, rfl, hz⟩ := zs_at hx
    refine bT (i_lenI (s' _ _ hr8) ⟨by omega, eD, sz_lt (by rw [List.length_map, List.length_take, List.length_map]; omega), fun H6 k6 e6 => ⟨?_, s'.new k6 hD, _, rfl⟩⟩)
    have hc : (qs8.map fun p => (((p + t) % ns.length : Nat) : Int))[k]? = some (((z : Int) + t) % ns.length) := by
      rw [List.getElem?_map, hz]; simp
    rw [take_snoc hc, List.map_append]; rfl
  rintro pl9 σ H9 ys hpl9 ⟨rfl, s9, _⟩ e9
  rw [List.take_of_length_le (by simp)] at e9
  refine i_sortedS (SqL.of e9) (by rw [List.length_map]; omega) fun p10 H10 ns10 hp10 hs10 hn10 s10 e10 => ?_
  obtain ⟨A, B, eAB, hA, hB⟩ := part_at (ns.length - t) pl8.up
  subst eAB
  have hbs : ns10 = zs (seen ns.length (ns.length - t) A B) := by
    refine M48.sort_places (seen_pl (Nat.sub_le _ _) pl8 hA hB).up (hp10.trans ?_) hs10
    have := (M48.turn_perm (Nat.le_of_lt htn) pl8 hA hB).symm.map fun (x : Nat) => (x : Int)
    rwa [List.map_map] at this
  subst hbs
  have hrb := rot_back (ns := ns) (Nat.le_of_lt htn)
  have plb := seen_pl (n := ns.length) (Nat.sub_le _ t) pl8 hA hB
  have lenb : (seen ns.length (ns.length - t) A B).length = m := seen_len.trans rb8.len
  have rkb : RK ns v8 (seen ns.length (ns.length - t) A B) := by
    have := (seen_rk (ns := rotN ns t) (u := v8) (r := ns.length - t) (by omega) (by rw [hrl]; exact pl8) hA hB).mpr rb8.keep
    rwa [hrb, hrl] at this
  have s810 := s9.trans s10
  have e8_10 := s810 _ _ e8
  have hr10 := s810 _ _ hr8
  have ec10 := s810 _ _ ec4_8
  have ec8_10 := s810 _ _ ec8
  refine i_ixT 0 e8_10 rfl rfl (bNo (by simp) ?_)
  refine ⟨r, p10, ns, seen ns.length (ns.length - t) A B, rfl, hr10, e10, hle, plb, fun su2 H11 hsu2 s11 e11 => ?_⟩
  refine i_max (SqL.of e11) (ring_ne plb) fun M2 hM2 hmax2 => ?_
  have eM2 := ring_max rb plb lenb rkb hM2 hmax2
  subst eM2
  refine bNo (by simp) ?_
  have e10_11 := s11 _ _ e10
  have ec11 := s11 _ _ ec10
  refine i_ltI e10_11 ec11 (bNo ?_ ?_)
  · cases z : ltI (zs (seen ns.length (ns.length - t) A B)) (zs qs) with
    | false => rfl
    | true => exact absurd (ahead_of (by rw [lenb, rb.len]) z) (rb.first _ plb lenb rkb)
  have hr11 := s11 _ _ hr10
  have ec8_11 := s11 _ _ ec8_10
  have e8_11 := s11 _ _ e8_10
  have e7_11 := s11 _ _ (s810 _ _ (s8 _ _ e7'))
  refine ⟨⟨_, SqL.of ec11⟩, comp_lst ((zs qs).map V.int) (fun k D σ H' ys => ys = ((qs.map fun (p : Nat) => ((p : Int) - t) % (ns.length : Int)).take k).map V.int ∧ Same H11 H' ∧ ∃ o, σ = [o, some (.int t), some (.ref r)]) ?_ ?_ ?_ ?_⟩
  · intro D H' hD s' e'
    exact ⟨rfl, s', _, rfl⟩
  · rintro k D σ H' ys hD ⟨_, s', _⟩
    exact SqL.of (s' _ _ ec11)
  · rintro k x D σ H' ys hx hD ⟨rfl, s', o, rfl⟩ eD
    obtain ⟨z, rfl, hz⟩ := zs_at hx
    refine bT (i_lenI (s' _ _ hr11) ⟨by omega, eD, sz_lt (by rw [List.length_map, List.length_take, List.length_map]; omega), fun H6 k6 e6 => ⟨?_, s'.new k6 hD, _, rfl⟩⟩)
    have hc : (qs.map fun (p : Nat) => ((p : Int) - t) % (ns.length : Int))[k]? = some (((z : Int) - t) % ns.length) := by
      rw [List.getElem?_map, hz]; rfl
    rw [take_snoc hc, List.map_append]; rfl
  rintro pl12 σ H12 ys hpl12 ⟨rfl, s12, _⟩ e12
  rw [List.take_of_length_le (by simp)] at e12
  refine i_sortedS (SqL.of e12) (by rw [List.length_map]; omega) fun p13 H13 ns13 hp13 hs13 hn13 s13 e13 => ?_
  obtain ⟨A2, B2, eAB2, hA2, hB2⟩ := part_at t rb.pl.up
  have hpl2 : PlR (A2 ++ B2) ns.length := eAB2 ▸ rb.pl
  have hbs2 : ns13 = zs (seen ns.length t A2 B2) := by
    refine M48.sort_places (seen_pl (Nat.le_of_lt htn) hpl2 hA2 hB2).up (hp13.trans ?_) hs13
    rw [eAB2]
    exact (M48.back_perm htn hpl2 hA2 hB2).symm
  subst hbs2
  have s1113 := s12.trans s13
  have e8_13 := s1113 _ _ e8_11
  refine i_ixT (v := .ref pc8) 1 e8_13 rfl rfl ?_
  refine i_ltI e13 (s1113 _ _ ec8_11) (bNo ?_ ?_)
  · have plc := seen_pl (n := ns.length) (Nat.le_of_lt htn) hpl2 hA2 hB2
    have lenc : (seen ns.length t A2 B2).length = m := by rw [seen_len, ← eAB2]; exact rb.len
    cases z : ltI (zs (seen ns.length t A2 B2)) (zs (A ++ B)) with
    | false => rfl
    | true =>
      refine absurd (ahead_of (by rw [lenc, rb8.len]) z) (rb8.first _ (by rw [hrl]; exact plc) lenc ?_)
      exact (seen_rk (Nat.le_of_lt htn) hpl2 hA2 hB2).mpr (eAB2 ▸ rb.keep)
  have hr13 := s1113 _ _ hr11
  have e7_13 := s1113 _ _ e7_11
  have ec13 := s1113 _ _ ec11
  refine i_lenI hr13 ?_
  have eend : ((ns.length : Int) - t) = ((ns.length - t : Nat) : Int) := by omega
  refine i_sl (SqL.of e7_13) fun p14 H14 hp14 s14 e14 => i_sl (SqL.of (s14 _ _ e7_13)) fun p15 H15 hp15 s15 e15 => ?_
  rw [eend, cutV_fr _ (by rw [hrl]; exact Nat.sub_le _ _)] at e14
  rw [eend, cutV_tk _ (by rw [hrl]; exact Nat.sub_le _ _)] at e15
  refine i_cat (s15 _ _ e14) e15 (sz_of (by simp; omega)) fun p16 H16 hp16 s16 e16 => ?_
  have e16' : H16 p16 = some (.lst (ns.map V.int)) := by
    rw [e16, ← List.map_append]
    exact congrArg (fun l => some (HO.lst (List.map V.int l))) hrb
  have s1316 := s14.trans (s15.trans s16)
  refine ⟨p16, m, ns, rfl, e16', rm, m1, mn, fun p17 pc17 v17 qs17 H17 rb17 _ hp17 hpc17 s17 e17 ec17 => ?_⟩
  obtain ⟨z1, z2⟩ := rb.uniq rb17
  subst z1 z2
  have ec17' := s17 _ _ (s1316 _ _ ec13)
  have hr17 := s17 _ _ (s1316 _ _ hr13)
  refine i_newT (by show 2 ≤ sizeLine; decide) fun p18 H18 hp18 s18 e18 => ?_
  refine i_eqD (d := pairD _ (zs qs)) 1 (by decide) (rv_pair (s18 _ _ e17) (s18 _ _ ec17)) (rv_pair e18 (s18 _ _ ec17')) (bNo rfl ?_)
  have hr18 := s18 _ _ hr17
  have ec18 := s18 _ _ ec17'
  refine ⟨rfl, i_rev (SqL.of hr18) fun rv H19 hrv s19 e19 => ?_⟩
  rw [← List.map_reverse] at e19
  have rmv : RowM ns.reverse := ⟨by simpa using rm.ne, by simpa using rm.le, fun n hn => rm.nn n (by simpa using hn), fun n hn => rm.ub n (by simpa using hn)⟩
  refine ⟨rv, m, ns.reverse, rfl, e19, rmv, m1, by simpa using mn, fun p20 pc20 v20 qs20 H20 rb20 _ hp20 hpc20 s20 e20 ec20 => ?_⟩
  have ev20 := M48.rb_rev hn0 rb rb20
  subst ev20
  have pl20 : PlR qs20 ns.length := by have := rb20.pl; rwa [List.length_reverse] at this
  have s1820 := s19.trans s20
  have hr20 := s1820 _ _ hr18
  refine i_ixT (v := .ref pc20) 1 e20 rfl rfl ?_
  have hl20 : qs20.length ≤ 120 := by rw [rb20.len]; omega
  refine ⟨⟨_, SqL.of ec20⟩, comp_lst ((zs qs20).map V.int) (fun k D σ H' ys => ys = ((qs20.map fun p => (((ns.length - p) % ns.length : Nat) : Int)).take k).map V.int ∧ Same H20 H' ∧ ∃ o, σ = [o, some (.ref r)]) ?_ ?_ ?_ ?_⟩
  · intro D H' hD s' e'
    exact ⟨rfl, s', _, rfl⟩
  · rintro k D σ H' ys hD ⟨_, s', _⟩
    exact SqL.of (s' _ _ ec20)
  · rintro k x D σ H' ys hx hD ⟨rfl, s', o, rfl⟩ eD
    obtain ⟨z, rfl, hz⟩ := zs_at hx
    have hzn := pl20.hi z (List.mem_of_getElem? hz)
    refine bT (i_lenI (s' _ _ hr20) (i_lenI (s' _ _ hr20) ⟨by omega, eD, sz_lt (by rw [List.length_map, List.length_take, List.length_map]; omega), fun H6 k6 e6 => ⟨?_, s'.new k6 hD, _, rfl⟩⟩))
    have hc : (qs20.map fun p => (((ns.length - p) % ns.length : Nat) : Int))[k]? = some (((ns.length : Int) - z) % ns.length) := by
      rw [List.getElem?_map, hz]
      simp only [Option.map_some, Int.natCast_emod]
      rw [Int.ofNat_sub (Nat.le_of_lt hzn)]
    rw [take_snoc hc, List.map_append]; rfl
  rintro pl21 σ H21 ys hpl21 ⟨rfl, s21, _⟩ e21
  rw [List.take_of_length_le (by simp)] at e21
  refine i_sortedS (SqL.of e21) (by rw [List.length_map]; omega) fun p22 H22 ns22 hp22 hs22 hn22 s22 e22 => ?_
  obtain ⟨plm, lenm, permm⟩ := M48.mir_pl pl20
  have hbm : ns22 = zs (M48.mir ns.length qs20) := by
    refine M48.sort_places plm.up (hp22.trans ?_) hs22
    have := permm.symm.map fun (x : Nat) => (x : Int)
    rwa [List.map_map] at this
  subst hbm
  have rkm := (M48.mir_rk hn0 pl20).mp rb20.keep
  have s2022 := s21.trans s22
  have hr22 := s2022 _ _ hr20
  have ec22 := s2022 _ _ (s1820 _ _ ec18)
  refine i_ixT 0 (s2022 _ _ e20) rfl rfl ?_
  refine bIs (by simp) ?_
  have lenm' : (M48.mir ns.length qs20).length = m := lenm.trans rb20.len
  refine ⟨r, p22, ns, M48.mir ns.length qs20, rfl, hr22, e22, hle, plm, fun su3 H23 hsu3 s23 e23 => ?_⟩
  refine i_max (SqL.of e23) (ring_ne plm) fun M3 hM3 hmax3 => ?_
  have eM3 := ring_max rb plm lenm' rkm hM3 hmax3
  subst eM3
  refine bIs (by simp) ?_
  refine i_geI (SqL.of (s23 _ _ e22)) (SqL.of (s23 _ _ ec22)) (by rw [hzl]; simp [zs, lenm']) ?_
  rw [ge_of (by rw [lenm', rb.len]) (rb.first _ plm lenm' rkm)]
  have s423 := s47.trans (s8.trans (s810.trans (s11.trans (s1113.trans (s1316.trans (s17.trans (s18.trans (s1820.trans (s2022.trans s23)))))))))
  exact q H23 (hd4.same s423) ((((s1.trans (s2.trans s3)).kp).trans k4).same s423)

end
end K

set_option linter.all false
set_option Elab.async false
set_option maxRecDepth 100000
set_option maxHeartbeats 4000000
namespace K
open PySem L2
section
variable {C : Addr} {P : Program} {w : World} {K : PySem.W.Frag} {mg : Str → Option Value} {base : Heap} {f : Addr} {fd : FuncData}

abbrev s_law : Stmt := top 26
theorem sc_law : FnScope ["script", "draws", "many", "row", "parts"] ["script"] (defScope s_law) := ⟨rfl, rfl, rfl, by decide +kernel, rfl, by decide +kernel, by decide +kernel⟩
theorem l_law_draws : Loc (defScope s_law) "draws" := Or.inl (by kernel_rfl)
theorem l_law_many : Loc (defScope s_law) "many" := Or.inl (by kernel_rfl)
theorem l_law_parts : Loc (defScope s_law) "parts" := Or.inl (by kernel_rfl)
theorem l_law_row : Loc (defScope s_law) "row" := Or.inl (by kernel_rfl)
theorem v_law_draws : Vis (defScope s_law) "draws" := Or.inl (by kernel_rfl)
theorem v_law_many : Vis (defScope s_law) "many" := Or.inl (by kernel_rfl)
theorem v_law_parts : Vis (defScope s_law) "parts" := Or.inl (by kernel_rfl)
theorem v_law_row : Vis (defScope s_law) "row" := Or.inl (by kernel_rfl)
theorem v_law_script : Vis (defScope s_law) "script" := Or.inl (by kernel_rfl)
theorem g_law__law_draws : (defScope s_law).names.lookup ("_law_draws" : Str) = some NameKind.globalImplicit := by kernel_rfl
theorem g_law__law_pieces : (defScope s_law).names.lookup ("_law_pieces" : Str) = some NameKind.globalImplicit := by kernel_rfl
theorem g_law__law_right : (defScope s_law).names.lookup ("_law_right" : Str) = some NameKind.globalImplicit := by kernel_rfl
theorem g_law__law_row : (defScope s_law).names.lookup ("_law_row" : Str) = some NameKind.globalImplicit := by kernel_rfl
theorem g_law__law_take : (defScope s_law).names.lookup ("_law_take" : Str) = some NameKind.globalImplicit := by kernel_rfl
theorem g_law_len : (defScope s_law).names.lookup ("len" : Str) = some NameKind.globalImplicit := by kernel_rfl
def t_law {cdv : Value} {A : Around} {outer : List Env} {s : Shared} {H : Hp} {E : XK} (B : Bl mg) (D_law_draws : Def P w K mg base 1 "_law_draws" ["script"] (sp_law_draws K)) (D_law_row : Def P w K mg base 2 "_law_row" ["draws", "most"] sp_law_row) (D_law_take : Def P w K mg base 1 "_law_take" ["draws", "many"] sp_law_take) (D_law_pieces : Def P w K mg base 2 "_law_pieces" ["draws", "row"] sp_law_pieces) (D_law_right : Def P w K mg base 7 "_law_right" ["draws", "row", "many"] sp_law_right) (hr : Room 7 (A.deeper (PyProof.Rows.envOfC "law" (defScope s_law) s.heap.objs.size f cdv))) :
    { t : TS // QB (cxOf CX0 P w K mg base ["script", "draws", "many", "row", "parts"] "law" (defScope s_law) f cdv A outer s H E).nox (defBody s_law) t } :=
  ⟨_, (qb_cons (qs_set (i := 1) sc_law.nd rfl l_law_draws (.inl rfl) (qe_def D_law_draws hr (by decide) g_law__law_draws (qa_cons (qv 0 rfl v_law_script) qa_nil)))
    (qb_cons (qs_set (i := 2) sc_law.nd rfl l_law_many (.inl rfl) qe_int)
    (qb_mid (qs_while PassesOwn.never (QW.pt (qw_or (qt_cmp opLt (qv 2 rfl v_law_many) qe_int) (qw_or1 (QW.pt (qw_and (qt_cmp (kNeG (K := K) rfl hr) (qv 1 rfl v_law_draws) (qe_lst qa_nil)) (qw_and1 (qt_cmp opLt (qv 2 rfl v_law_many) qe_int))))))) (qb_cons (qs_set (i := 3) sc_law.nd rfl l_law_row (.inl rfl) (qe_def D_law_row hr (by decide) g_law__law_row (qa_cons (qv 1 rfl v_law_draws) (qa_cons qe_int qa_nil))))
    (qb_mid (qs_for PassesOwn.never rfl (ki_tup (K := K) rfl (qe_tup (qa_cons (qe_def D_law_pieces hr (by decide) g_law__law_pieces (qa_cons (qv 1 rfl v_law_draws) (qa_cons (qv 3 rfl v_law_row) qa_nil))) (qa_cons (qe_op opAdd qe_int (qe_op opMod (qe_def D_law_take hr (by decide) g_law__law_take (qa_cons (qv 1 rfl v_law_draws) (qa_cons qe_int qa_nil))) (qe_cB (kLen (K := K) rfl) g_law_len B.len boot_len' (qa_cons (qv 3 rfl v_law_row) qa_nil)))) qa_nil)))) (qg_name (i := 4) sc_law.nd rfl l_law_parts (.inl rfl)) (qb_one (qs_if (qt_not (kt_val (K := K) rfl (qe_def D_law_right hr (by decide) g_law__law_right (qa_cons (qv 1 rfl v_law_draws) (qa_cons (qv 3 rfl v_law_row) (qa_cons (qv 4 rfl v_law_parts) qa_nil)))))) (qb_one (qs_ret qe_bl)) qb_nil)))
    (qb_one (qs_set (i := 2) sc_law.nd rfl l_law_many (.inl rfl) (qe_op opAdd (qv 2 rfl v_law_many) qe_int))))))
    (qb_one (qs_ret qe_bl)))))⟩
open M3 M40 M25 M39
def sp_law (K : PySem.W.Frag) : Sp := fun vs H Q _ => ∃ (a : Addr) (ns : List Int), vs = [.ref a] ∧ SqL K H a (ns.map V.int) ∧ ns.length ≤ 63 ∧ ∀ H', Q (.bl true) H'
theorem mOr_do {tA tB : TT} {σ : St} {H : Hp} {Q : Bool → Hp → Prop} (P : Hp → Prop) (hm : ∀ Q' : Bool → Hp → Prop, (∀ H3, P H3 → Q' true H3) → (∀ H3, Q' false H3) → mOr tA tB σ H Q') (ht : ∀ H3, P H3 → Q true H3) (hf : ∀ H3, Q false H3) : mOr tA tB σ H Q := hm Q ht hf
theorem ok_law (B : Bl mg) (D_law_draws : Def P w K mg base 1 "_law_draws" ["script"] (sp_law_draws K)) (D_law_row : Def P w K mg base 2 "_law_row" ["draws", "most"] sp_law_row) (D_law_take : Def P w K mg base 1 "_law_take" ["draws", "many"] sp_law_take) (D_law_pieces : Def P w K mg base 2 "_law_pieces" ["draws", "row"] sp_law_pieces) (D_law_right : Def P w K mg base 7 "_law_right" ["draws", "row", "many"] sp_law_right) (F : Fun K "law" "law" s_law f fd) : FnOk P w K mg base CX0 8 f fd ["script"] (sp_law K) := by
  refine F.okq sc_law (fun vs H Q E h => ?_) (fun cdv A outer s H vs Q E hr h => ?_)
  · obtain ⟨a, ns, rfl, _⟩ := h; rfl
  obtain ⟨a, sc, rfl, hS, h63, q⟩ := h
  refine ⟨t_law B D_law_draws D_law_row D_law_take D_law_pieces D_law_right hr, ?_⟩
  refine ⟨a, sc, rfl, hS, h63, fun d H1 hd0 s1 hd1 => ?_⟩
  refine ⟨fun σ H' => True, ?_, fun σ H' _ => q H'⟩
  · refine while_m (fun mm σ H' => DrawsAt H' d ∧ ∃ (k : Nat) (o3 o4 : Option V), k ≤ 2 ∧ mm = 2 - k ∧ σ = [some (.ref a), some (.ref d), some (.int k), o3, o4]) 2 ⟨hd1, 0, _, _, by omega, rfl, rfl⟩ ?_
    rintro mm σ H2 ⟨hd2, k, o3, o4, hk4, hmm, rfl⟩
    refine mOr_do (fun H3 => DrawsAt H3 d ∧ (k : Int) < 2) (fun Q' h1 h2 => dec2 (fun c => h1 H2 ⟨hd2, by have : (k : Int) < 1 := c; omega⟩) (fun c => ?_)) (fun H3 z => bT ?_) (fun H3 => bF trivial)
    · obtain ⟨ds, ed, hds, hdl⟩ := hd2
      refine i_newL (by show 0 ≤ sizeLine; decide) fun p3 H3 hp3 s3 e3 => ?_
      have hd3 : DrawsAt H3 d := ⟨ds, s3 _ _ ed, hds, hdl⟩
      refine i_eqI (ns := ds) (ms := []) (SqL.of (s3 _ _ ed)) (SqL.of e3) (ndec2 (fun c1 => ?_) (fun c1 => h2 H3))
      show Q' (decide ((k : Int) < 2)) H3
      by_cases c2 : (k : Int) < 2
      · rw [decide_eq_true c2]; exact h1 H3 ⟨hd3, c2⟩
      · rw [decide_eq_false c2]; exact h2 H3
    · obtain ⟨hd3, c2'⟩ := z
      refine ⟨d, 40, rfl, hd3, by decide, by decide, fun r ns H4 rn hm39 hd4 k3 e4 nr _ => ?_⟩
      have hle := rn.le
      have hge := rn.ne
      refine ⟨fun σ H' => DrawsAt H' d ∧ ∃ o4, σ = [some (.ref a), some (.ref d), some (.int k), some (.ref r), o4], ?_, ?_⟩
      · refine ⟨d, r, ns, rfl, hd4, e4, nr, by omega, by omega, fun m H5 m1 m2 hd5 k5 => ?_⟩
        have e5 := k5.one nr e4
        refine ⟨d, 1000, rfl, hd5, by decide, fun g H6 g0 g1 hd6 k6 => ?_⟩
        have e6 := k6.one nr e5
        refine i_lenI e6 ⟨by omega, ?_⟩
        obtain ⟨m', hm', m1', m2'⟩ : ∃ m' : Nat, 1 + g % (ns.length : Int) = (m' : Int) ∧ 1 ≤ m' ∧ m' ≤ ns.length := by
          have b0 := Int.emod_nonneg g (show (ns.length : Int) ≠ 0 by omega)
          have b1 := Int.emod_lt_of_pos g (show (0 : Int) < (ns.length : Int) by omega)
          exact ⟨(1 + g % (ns.length : Int)).toNat, by omega, by omega, by omega⟩
        refine i_newT (by show 2 ≤ sizeLine; decide) fun t H7 ht s7 e7 => ?_
        rw [hm'] at e7
        have ntd : t ≠ d := (hd6.ne ht).symm
        refine ⟨⟨_, SqT.of e7⟩, for_tup (xs := [.int m, .int m']) (fun i σ H' => DrawsAt H' d ∧ H' r = some (.lst (ns.map V.int)) ∧ H' t = some (.tup [.int m, .int m']) ∧ ∃ o4, σ = [some (.ref a), some (.ref d), some (.int k), some (.ref r), o4]) ?_ ?_ ?_ ?_⟩
        · exact ⟨hd6.same s7, s7 _ _ e6, e7, _, rfl⟩
        · rintro i σ H' _ ⟨_, _, et, _⟩
          exact SqT.of et
        · rintro i x σ H' hx ⟨hd', er', et', o4, rfl⟩
          obtain ⟨mm, rfl, h1, h2⟩ : ∃ mm : Nat, x = .int mm ∧ 1 ≤ mm ∧ mm ≤ ns.length := by
            have := List.mem_of_getElem? hx
            simp at this
            rcases this with rfl | rfl
            · exact ⟨m, rfl, m1, m2⟩
            · exact ⟨m', rfl, m1', m2'⟩
          refine ⟨d, r, ns, mm, rfl, hd', nr, er', rn, h1, h2, fun H8 hd8 k8 => bF ?_⟩
          exact ⟨hd8, k8.one nr er', k8.one ntd et', _, rfl⟩
        · rintro σ H' ⟨hd', _, _, o4, rfl⟩
          exact ⟨hd', _, rfl⟩
      · rintro σ H' ⟨hd', o4, rfl⟩
        exact ⟨2 - (k + 1), by omega, hd', k + 1, _, _, by omega, rfl, rfl⟩

end
end K

set_option linter.all false
set_option Elab.async false
set_option maxRecDepth 100000
set_option maxHeartbeats 4000000
namespace K
open PySem PySem.Spec PyProof.Rows L2
theorem all_mk {l : PySem.W.OpenLaw} {w : World} {K : PySem.W.Frag} {h : Heap} {mg : Str → Option Value} {fa f0 f1 f2 f3 f4 f5 f6 f7 f8 f9 f10 f11 f12 f13 f14 f15 f16 f17 f18 f19 : Addr} (X : K.In h) (G : h.Ns mainGlobals mg) (hfa : mg "law" = some (.ref fa))
    {od0 an0 od1 an1 od2 an2 od3 an3 od4 an4 od5 an5 od6 an6 od7 an7 od8 an8 od9 an9 od10 an10 od11 an11 od12 an12 od13 an13 od14 an14 od15 an15 od16 an16 od17 an17 od18 an18 od19 an19 : Option Addr} {sl0 sl1 sl2 sl3 sl4 sl5 sl6 sl7 sl8 sl9 sl10 sl11 sl12 sl13 sl14 sl15 sl16 sl17 sl18 sl19 : Array (Option Value)} {oc0 kV0 dc0 pm0 cd0 ct0 oc1 kV1 dc1 pm1 cd1 ct1 oc2 kV2 dc2 pm2 cd2 ct2 oc3 kV3 dc3 pm3 cd3 ct3 oc4 kV4 dc4 pm4 cd4 ct4 oc5 kV5 dc5 pm5 cd5 ct5 oc6 kV6 dc6 pm6 cd6 ct6 oc7 kV7 dc7 pm7 cd7 ct7 oc8 kV8 dc8 pm8 cd8 ct8 oc9 kV9 dc9 pm9 cd9 ct9 oc10 kV10 dc10 pm10 cd10 ct10 oc11 kV11 dc11 pm11 cd11 ct11 oc12 kV12 dc12 pm12 cd12 ct12 oc13 kV13 dc13 pm13 cd13 ct13 oc14 kV14 dc14 pm14 cd14 ct14 oc15 kV15 dc15 pm15 cd15 ct15 oc16 kV16 dc16 pm16 cd16 ct16 oc17 kV17 dc17 pm17 cd17 ct17 oc18 kV18 dc18 pm18 cd18 ct18 oc19 kV19 dc19 pm19 cd19 ct19 : Value}
    (a0 : PySem.W.nsIn K mainGlobals "_law_draws" = some (some (.ref f0))) (l0 : K.lookup f0 = some ⟨oc0, od0, .func (PySem.W.fnOf "_law_draws" "_law_draws" (defArgs s_law_draws) (defBody s_law_draws) (defScope s_law_draws) .none kV0 dc0 pm0 an0 cd0 ct0), sl0⟩) (c0 : PySem.W.codeIn K cd0 "_law_draws" = true) (k0 : PySem.W.keepIn K (.ref f0) = true)
    (a1 : PySem.W.nsIn K mainGlobals "_law_take" = some (some (.ref f1))) (l1 : K.lookup f1 = some ⟨oc1, od1, .func (PySem.W.fnOf "_law_take" "_law_take" (defArgs s_law_take) (defBody s_law_take) (defScope s_law_take) .none kV1 dc1 pm1 an1 cd1 ct1), sl1⟩) (c1 : PySem.W.codeIn K cd1 "_law_take" = true) (k1 : PySem.W.keepIn K (.ref f1) = true)
    (a2 : PySem.W.nsIn K mainGlobals "_law_row" = some (some (.ref f2))) (l2 : K.lookup f2 = some ⟨oc2, od2, .func (PySem.W.fnOf "_law_row" "_law_row" (defArgs s_law_row) (defBody s_law_row) (defScope s_law_row) .none kV2 dc2 pm2 an2 cd2 ct2), sl2⟩) (c2 : PySem.W.codeIn K cd2 "_law_row" = true) (k2 : PySem.W.keepIn K (.ref f2) = true)
    (a3 : PySem.W.nsIn K mainGlobals "_law_pieces" = some (some (.ref f3))) (l3 : K.lookup f3 = some ⟨oc3, od3, .func (PySem.W.fnOf "_law_pieces" "_law_pieces" (defArgs s_law_pieces) (defBody s_law_pieces) (defScope s_law_pieces) .none kV3 dc3 pm3 an3 cd3 ct3), sl3⟩) (c3 : PySem.W.codeIn K cd3 "_law_pieces" = true) (k3 : PySem.W.keepIn K (.ref f3) = true)
    (a4 : PySem.W.nsIn K mainGlobals "is_whole" = some (some (.ref f4))) (l4 : K.lookup f4 = some ⟨oc4, od4, .func (PySem.W.fnOf "is_whole" "is_whole" (defArgs s_is_whole) (defBody s_is_whole) (defScope s_is_whole) .none kV4 dc4 pm4 an4 cd4 ct4), sl4⟩) (c4 : PySem.W.codeIn K cd4 "is_whole" = true) (k4 : PySem.W.keepIn K (.ref f4) = true)
    (a5 : PySem.W.nsIn K mainGlobals "is_within" = some (some (.ref f5))) (l5 : K.lookup f5 = some ⟨oc5, od5, .func (PySem.W.fnOf "is_within" "is_within" (defArgs s_is_within) (defBody s_is_within) (defScope s_is_within) .none kV5 dc5 pm5 an5 cd5 ct5), sl5⟩) (c5 : PySem.W.codeIn K cd5 "is_within" = true) (k5 : PySem.W.keepIn K (.ref f5) = true)
    (a6 : PySem.W.nsIn K mainGlobals "check_many" = some (some (.ref f6))) (l6 : K.lookup f6 = some ⟨oc6, od6, .func (PySem.W.fnOf "check_many" "check_many" (defArgs s_check_many) (defBody s_check_many) (defScope s_check_many) .none kV6 dc6 pm6 an6 cd6 ct6), sl6⟩) (c6 : PySem.W.codeIn K cd6 "check_many" = true) (k6 : PySem.W.keepIn K (.ref f6) = true)
    (a7 : PySem.W.nsIn K mainGlobals "long_cut" = some (some (.ref f7))) (l7 : K.lookup f7 = some ⟨oc7, od7, .func (PySem.W.fnOf "long_cut" "long_cut" (defArgs s_long_cut) (defBody s_long_cut) (defScope s_long_cut) .none kV7 dc7 pm7 an7 cd7 ct7), sl7⟩) (c7 : PySem.W.codeIn K cd7 "long_cut" = true) (k7 : PySem.W.keepIn K (.ref f7) = true)
    (a8 : PySem.W.nsIn K mainGlobals "fewest_pieces" = some (some (.ref f8))) (l8 : K.lookup f8 = some ⟨oc8, od8, .func (PySem.W.fnOf "fewest_pieces" "fewest_pieces" (defArgs s_fewest_pieces) (defBody s_fewest_pieces) (defScope s_fewest_pieces) .none kV8 dc8 pm8 an8 cd8 ct8), sl8⟩) (c8 : PySem.W.codeIn K cd8 "fewest_pieces" = true) (k8 : PySem.W.keepIn K (.ref f8) = true)
    (a9 : PySem.W.nsIn K mainGlobals "least_bound" = some (some (.ref f9))) (l9 : K.lookup f9 = some ⟨oc9, od9, .func (PySem.W.fnOf "least_bound" "least_bound" (defArgs s_least_bound) (defBody s_least_bound) (defScope s_least_bound) .none kV9 dc9 pm9 an9 cd9 ct9), sl9⟩) (c9 : PySem.W.codeIn K cd9 "least_bound" = true) (k9 : PySem.W.keepIn K (.ref f9) = true)
    (a10 : PySem.W.nsIn K mainGlobals "earliest_begin" = some (some (.ref f10))) (l10 : K.lookup f10 = some ⟨oc10, od10, .func (PySem.W.fnOf "earliest_begin" "earliest_begin" (defArgs s_earliest_begin) (defBody s_earliest_begin) (defScope s_earliest_begin) .none kV10 dc10 pm10 an10 cd10 ct10), sl10⟩) (c10 : PySem.W.codeIn K cd10 "earliest_begin" = true) (k10 : PySem.W.keepIn K (.ref f10) = true)
    (a11 : PySem.W.nsIn K mainGlobals "earliest_cut" = some (some (.ref f11))) (l11 : K.lookup f11 = some ⟨oc11, od11, .func (PySem.W.fnOf "earliest_cut" "earliest_cut" (defArgs s_earliest_cut) (defBody s_earliest_cut) (defScope s_earliest_cut) .none kV11 dc11 pm11 an11 cd11 ct11), sl11⟩) (c11 : PySem.W.codeIn K cd11 "earliest_cut" = true) (k11 : PySem.W.keepIn K (.ref f11) = true)
    (a12 : PySem.W.nsIn K mainGlobals "least_greatest" = some (some (.ref f12))) (l12 : K.lookup f12 = some ⟨oc12, od12, .func (PySem.W.fnOf "least_greatest" "least_greatest" (defArgs s_least_greatest) (defBody s_least_greatest) (defScope s_least_greatest) .none kV12 dc12 pm12 an12 cd12 ct12), sl12⟩) (c12 : PySem.W.codeIn K cd12 "least_greatest" = true) (k12 : PySem.W.keepIn K (.ref f12) = true)
    (a13 : PySem.W.nsIn K mainGlobals "best_from" = some (some (.ref f13))) (l13 : K.lookup f13 = some ⟨oc13, od13, .func (PySem.W.fnOf "best_from" "best_from" (defArgs s_best_from) (defBody s_best_from) (defScope s_best_from) .none kV13 dc13 pm13 an13 cd13 ct13), sl13⟩) (c13 : PySem.W.codeIn K cd13 "best_from" = true) (k13 : PySem.W.keepIn K (.ref f13) = true)
    (a14 : PySem.W.nsIn K mainGlobals "ring_least_greatest" = some (some (.ref f14))) (l14 : K.lookup f14 = some ⟨oc14, od14, .func (PySem.W.fnOf "ring_least_greatest" "ring_least_greatest" (defArgs s_ring_least_greatest) (defBody s_ring_least_greatest) (defScope s_ring_least_greatest) .none kV14 dc14 pm14 an14 cd14 ct14), sl14⟩) (c14 : PySem.W.codeIn K cd14 "ring_least_greatest" = true) (k14 : PySem.W.keepIn K (.ref f14) = true)
    (a15 : PySem.W.nsIn K mainGlobals "pieces" = some (some (.ref f15))) (l15 : K.lookup f15 = some ⟨oc15, od15, .func (PySem.W.fnOf "pieces" "pieces" (defArgs s_pieces) (defBody s_pieces) (defScope s_pieces) .none kV15 dc15 pm15 an15 cd15 ct15), sl15⟩) (c15 : PySem.W.codeIn K cd15 "pieces" = true) (k15 : PySem.W.keepIn K (.ref f15) = true)
    (a16 : PySem.W.nsIn K mainGlobals "sums_of" = some (some (.ref f16))) (l16 : K.lookup f16 = some ⟨oc16, od16, .func (PySem.W.fnOf "sums_of" "sums_of" (defArgs s_sums_of) (defBody s_sums_of) (defScope s_sums_of) .none kV16 dc16 pm16 an16 cd16 ct16), sl16⟩) (c16 : PySem.W.codeIn K cd16 "sums_of" = true) (k16 : PySem.W.keepIn K (.ref f16) = true)
    (a17 : PySem.W.nsIn K mainGlobals "ring_sums" = some (some (.ref f17))) (l17 : K.lookup f17 = some ⟨oc17, od17, .func (PySem.W.fnOf "ring_sums" "ring_sums" (defArgs s_ring_sums) (defBody s_ring_sums) (defScope s_ring_sums) .none kV17 dc17 pm17 an17 cd17 ct17), sl17⟩) (c17 : PySem.W.codeIn K cd17 "ring_sums" = true) (k17 : PySem.W.keepIn K (.ref f17) = true)
    (a18 : PySem.W.nsIn K mainGlobals "_law_right" = some (some (.ref f18))) (l18 : K.lookup f18 = some ⟨oc18, od18, .func (PySem.W.fnOf "_law_right" "_law_right" (defArgs s_law_right) (defBody s_law_right) (defScope s_law_right) .none kV18 dc18 pm18 an18 cd18 ct18), sl18⟩) (c18 : PySem.W.codeIn K cd18 "_law_right" = true) (k18 : PySem.W.keepIn K (.ref f18) = true)
    (a19 : PySem.W.nsIn K mainGlobals "law" = some (some (.ref f19))) (l19 : K.lookup f19 = some ⟨oc19, od19, .func (PySem.W.fnOf "law" "law" (defArgs s_law) (defBody s_law) (defScope s_law) .none kV19 dc19 pm19 an19 cd19 ct19), sl19⟩) (c19 : PySem.W.codeIn K cd19 "law" = true) (k19 : PySem.W.keepIn K (.ref f19) = true)
    (z0 : PySem.W.nsIn K mainGlobals "list" = some none) (z1 : PySem.W.nsIn K mainGlobals "enumerate" = some none) (z2 : PySem.W.nsIn K mainGlobals "int" = some none) (z3 : PySem.W.nsIn K mainGlobals "sum" = some none) (z4 : PySem.W.nsIn K mainGlobals "range" = some none) (z5 : PySem.W.nsIn K mainGlobals "sorted" = some none) (z6 : PySem.W.nsIn K mainGlobals "max" = some none) (z7 : PySem.W.nsIn K mainGlobals "min" = some none) (z8 : PySem.W.nsIn K mainGlobals "len" = some none) (z9 : PySem.W.nsIn K mainGlobals "repr" = some none) (z10 : PySem.W.nsIn K mainGlobals "isinstance" = some none) (z11 : PySem.W.nsIn K mainGlobals "zip" = some none) (z12 : PySem.W.nsIn K mainGlobals "bool" = some none) (z13 : PySem.W.nsIn K mainGlobals "tuple" = some none) (z14 : PySem.W.nsIn K mainGlobals "str" = some none) (z15 : PySem.W.nsIn K mainGlobals "dict" = some none) (z16 : PySem.W.nsIn K mainGlobals "abs" = some none) (z17 : PySem.W.nsIn K mainGlobals "set" = some none) :
    ∃ fd : FuncData, (∀ (s : Shared) (v : Value), BindsTo s fd ⟨[v], []⟩ [("script", v)]) ∧ ∀ base : Heap, K.In base → base.Ns mainGlobals mg → FnOk l.prog w K mg base CX0 8 fa fd ["script"] (sp_law K) := by
  have e := hfa.symm.trans (PySem.W.mg_of X G a19)
  cases e
  have F0 := fun_mk (st := s_law_draws) l0 c0 k0
  have b0 := F0.binds (ps := ["script"]) fun _ _ _ _ _ _ us hl => match us, hl with | [_], _ => rfl
  have F1 := fun_mk (st := s_law_take) l1 c1 k1
  have b1 := F1.binds (ps := ["draws", "many"]) fun _ _ _ _ _ _ us hl => match us, hl with | [_, _], _ => rfl
  have F2 := fun_mk (st := s_law_row) l2 c2 k2
  have b2 := F2.binds (ps := ["draws", "most"]) fun _ _ _ _ _ _ us hl => match us, hl with | [_, _], _ => rfl
  have F3 := fun_mk (st := s_law_pieces) l3 c3 k3
  have b3 := F3.binds (ps := ["draws", "row"]) fun _ _ _ _ _ _ us hl => match us, hl with | [_, _], _ => rfl
  have F4 := fun_mk (st := s_is_whole) l4 c4 k4
  have b4 := F4.binds (ps := ["thing"]) fun _ _ _ _ _ _ us hl => match us, hl with | [_], _ => rfl
  have F5 := fun_mk (st := s_is_within) l5 c5 k5
  have b5 := F5.binds (ps := ["thing", "low", "high"]) fun _ _ _ _ _ _ us hl => match us, hl with | [_, _, _], _ => rfl
  have F6 := fun_mk (st := s_check_many) l6 c6 k6
  have b6 := F6.binds (ps := ["row", "many"]) fun _ _ _ _ _ _ us hl => match us, hl with | [_, _], _ => rfl
  have F7 := fun_mk (st := s_long_cut) l7 c7 k7
  have b7 := F7.binds (ps := ["row", "bound"]) fun _ _ _ _ _ _ us hl => match us, hl with | [_, _], _ => rfl
  have F8 := fun_mk (st := s_fewest_pieces) l8 c8 k8
  have b8 := F8.binds (ps := ["row", "bound"]) fun _ _ _ _ _ _ us hl => match us, hl with | [_, _], _ => rfl
  have F9 := fun_mk (st := s_least_bound) l9 c9 k9
  have b9 := F9.binds (ps := ["row", "many"]) fun _ _ _ _ _ _ us hl => match us, hl with | [_, _], _ => rfl
  have F10 := fun_mk (st := s_earliest_begin) l10 c10 k10
  have b10 := F10.binds (ps := ["row", "ahead", "end", "bound"]) fun _ _ _ _ _ _ us hl => match us, hl with | [_, _, _, _], _ => rfl
  have F11 := fun_mk (st := s_earliest_cut) l11 c11 k11
  have b11 := F11.binds (ps := ["row", "many", "bound"]) fun _ _ _ _ _ _ us hl => match us, hl with | [_, _, _], _ => rfl
  have F12 := fun_mk (st := s_least_greatest) l12 c12 k12
  have b12 := F12.binds (ps := ["row", "many"]) fun _ _ _ _ _ _ us hl => match us, hl with | [_, _], _ => rfl
  have F13 := fun_mk (st := s_best_from) l13 c13 k13
  have b13 := F13.binds (ps := ["row", "many", "first"]) fun _ _ _ _ _ _ us hl => match us, hl with | [_, _, _], _ => rfl
  have F14 := fun_mk (st := s_ring_least_greatest) l14 c14 k14
  have b14 := F14.binds (ps := ["row", "many"]) fun _ _ _ _ _ _ us hl => match us, hl with | [_, _], _ => rfl
  have F15 := fun_mk (st := s_pieces) l15 c15 k15
  have b15 := F15.binds (ps := ["row", "cut"]) fun _ _ _ _ _ _ us hl => match us, hl with | [_, _], _ => rfl
  have F16 := fun_mk (st := s_sums_of) l16 c16 k16
  have b16 := F16.binds (ps := ["row", "cut"]) fun _ _ _ _ _ _ us hl => match us, hl with | [_, _], _ => rfl
  have F17 := fun_mk (st := s_ring_sums) l17 c17 k17
  have b17 := F17.binds (ps := ["row", "places"]) fun _ _ _ _ _ _ us hl => match us, hl with | [_, _], _ => rfl
  have F18 := fun_mk (st := s_law_right) l18 c18 k18
  have b18 := F18.binds (ps := ["draws", "row", "many"]) fun _ _ _ _ _ _ us hl => match us, hl with | [_, _, _], _ => rfl
  have F19 := fun_mk (st := s_law) l19 c19 k19
  have b19 := F19.binds (ps := ["script"]) fun _ _ _ _ _ _ us hl => match us, hl with | [_], _ => rfl
  have B : Bl mg := ⟨PySem.W.mg_none_of X G z0, PySem.W.mg_none_of X G z1, PySem.W.mg_none_of X G z2, PySem.W.mg_none_of X G z3, PySem.W.mg_none_of X G z4, PySem.W.mg_none_of X G z5, PySem.W.mg_none_of X G z6, PySem.W.mg_none_of X G z7, PySem.W.mg_none_of X G z8, PySem.W.mg_none_of X G z9, PySem.W.mg_none_of X G z10, PySem.W.mg_none_of X G z11, PySem.W.mg_none_of X G z12, PySem.W.mg_none_of X G z13, PySem.W.mg_none_of X G z14, PySem.W.mg_none_of X G z15, PySem.W.mg_none_of X G z16, PySem.W.mg_none_of X G z17⟩
  refine ⟨PySem.W.fnOf "law" "law" (defArgs s_law) (defBody s_law) (defScope s_law) .none kV19 dc19 pm19 an19 cd19 ct19, fun s v => .of_eq rfl, fun base _ _ => ?_⟩
  have D_law_draws : Def l.prog w K mg base 1 "_law_draws" ["script"] (sp_law_draws K) := ⟨f0, _, ok_law_draws (P := l.prog) (w := w) (base := base) B  F0, b0, k0, PySem.W.mg_of X G a0⟩
  have D_law_take : Def l.prog w K mg base 1 "_law_take" ["draws", "many"] sp_law_take := ⟨f1, _, ok_law_take (P := l.prog) (w := w) (base := base) B  F1, b1, k1, PySem.W.mg_of X G a1⟩
  have D_law_row : Def l.prog w K mg base 2 "_law_row" ["draws", "most"] sp_law_row := ⟨f2, _, ok_law_row (P := l.prog) (w := w) (base := base) B D_law_take F2, b2, k2, PySem.W.mg_of X G a2⟩
  have D_law_pieces : Def l.prog w K mg base 2 "_law_pieces" ["draws", "row"] sp_law_pieces := ⟨f3, _, ok_law_pieces (P := l.prog) (w := w) (base := base) B D_law_take F3, b3, k3, PySem.W.mg_of X G a3⟩
  have D_is_whole : Def l.prog w K mg base 1 "is_whole" ["thing"] sp_is_whole := ⟨f4, _, ok_is_whole (P := l.prog) (w := w) (base := base) B  F4, b4, k4, PySem.W.mg_of X G a4⟩
  have D_is_within : Def l.prog w K mg base 2 "is_within" ["thing", "low", "high"] sp_is_within := ⟨f5, _, ok_is_within (P := l.prog) (w := w) (base := base) B D_is_whole F5, b5, k5, PySem.W.mg_of X G a5⟩
  have D_check_many : Def l.prog w K mg base 3 "check_many" ["row", "many"] sp_check_many := ⟨f6, _, ok_check_many (P := l.prog) (w := w) (base := base) B D_is_within F6, b6, k6, PySem.W.mg_of X G a6⟩
  have D_long_cut : Def l.prog w K mg base 1 "long_cut" ["row", "bound"] sp_long_cut := ⟨f7, _, ok_long_cut (P := l.prog) (w := w) (base := base) B  F7, b7, k7, PySem.W.mg_of X G a7⟩
  have D_fewest_pieces : Def l.prog w K mg base 2 "fewest_pieces" ["row", "bound"] sp_fewest_pieces := ⟨f8, _, ok_fewest_pieces (P := l.prog) (w := w) (base := base) B D_long_cut F8, b8, k8, PySem.W.mg_of X G a8⟩
  have D_least_bound : Def l.prog w K mg base 3 "least_bound" ["row", "many"] sp_least_bound := ⟨f9, _, ok_least_bound (P := l.prog) (w := w) (base := base) B D_fewest_pieces F9, b9, k9, PySem.W.mg_of X G a9⟩
  have D_earliest_begin : Def l.prog w K mg base 1 "earliest_begin" ["row", "ahead", "end", "bound"] sp_earliest_begin := ⟨f10, _, ok_earliest_begin (P := l.prog) (w := w) (base := base) B  F10, b10, k10, PySem.W.mg_of X G a10⟩
  have D_earliest_cut : Def l.prog w K mg base 2 "earliest_cut" ["row", "many", "bound"] sp_earliest_cut := ⟨f11, _, ok_earliest_cut (P := l.prog) (w := w) (base := base) B D_earliest_begin F11, b11, k11, PySem.W.mg_of X G a11⟩
  have D_least_greatest : Def l.prog w K mg base 4 "least_greatest" ["row", "many"] sp_least_greatest := ⟨f12, _, ok_least_greatest (P := l.prog) (w := w) (base := base) B D_check_many D_least_bound D_earliest_cut F12, b12, k12, PySem.W.mg_of X G a12⟩
  have D_best_from : Def l.prog w K mg base 5 "best_from" ["row", "many", "first"] sp_best_from := ⟨f13, _, ok_best_from (P := l.prog) (w := w) (base := base) B D_least_greatest F13, b13, k13, PySem.W.mg_of X G a13⟩
  have D_ring_least_greatest : Def l.prog w K mg base 6 "ring_least_greatest" ["row", "many"] sp_ring_least_greatest := ⟨f14, _, ok_ring_least_greatest (P := l.prog) (w := w) (base := base) B D_check_many D_best_from F14, b14, k14, PySem.W.mg_of X G a14⟩
  have D_pieces : Def l.prog w K mg base 1 "pieces" ["row", "cut"] sp_pieces := ⟨f15, _, ok_pieces (P := l.prog) (w := w) (base := base) B  F15, b15, k15, PySem.W.mg_of X G a15⟩
  have D_sums_of : Def l.prog w K mg base 2 "sums_of" ["row", "cut"] sp_sums_of := ⟨f16, _, ok_sums_of (P := l.prog) (w := w) (base := base) B D_pieces F16, b16, k16, PySem.W.mg_of X G a16⟩
  have D_ring_sums : Def l.prog w K mg base 3 "ring_sums" ["row", "places"] sp_ring_sums := ⟨f17, _, ok_ring_sums (P := l.prog) (w := w) (base := base) B D_sums_of F17, b17, k17, PySem.W.mg_of X G a17⟩
  have D_law_right : Def l.prog w K mg base 7 "_law_right" ["draws", "row", "many"] sp_law_right := ⟨f18, _, ok_law_right (P := l.prog) (w := w) (base := base) B D_ring_least_greatest D_ring_sums D_law_take F18, b18, k18, PySem.W.mg_of X G a18⟩
  exact ok_law (P := l.prog) (w := w) (base := base) B D_law_draws D_law_row D_law_take D_law_pieces D_law_right F19
theorem walk {l : PySem.W.OpenLaw} {q : Program} {loose : List Str} {XP : (Str → Option Value) → Heap → Prop} {YP : World → Heap → Prop} {d : DefRec} {K : Params → PySem.W.Frag} (hn : l.most = some 63) (hdf : d.params.defaults = [])
    (hY : ∀ (w : World) (h : Heap), YP w h → (K w.params).In h)
    (F : ∀ (w : World) (mg : Str → Option Value) (fa : Addr) (h : Heap), (K w.params).In h → h.Ns mainGlobals mg → mg d.name = some (.ref fa) →
      ∃ fd : FuncData, (∀ (s : Shared) (u : Value), BindsTo s fd ⟨[u], []⟩ [("script", u)]) ∧ ∀ base : Heap, (K w.params).In base → base.Ns mainGlobals mg → FnOk l.prog w (K w.params) mg base CX0 8 fa fd ["script"] (sp_law (K w.params))) :
    PySem.W.WalkO q loose XP YP l.row.toRowW d [] (fun f vs => PySem.call f vs) :=
  L2.walk_of (n := 63) (k := 8) (x := "script") (CX := fun _ => CX0) (sp := fun w => sp_law (K w.params)) hn (by decide) hdf ⟨rfl, by decide, by decide, rfl⟩ hY F (fun _ _ a ns hl _ hS => ⟨a, ns, rfl, hS, hl, fun _ => rfl⟩) fun _ _ _ _ _ z => z
end K
open PySem PySem.W PyProof.Rows
set_option maxRecDepth 100000 in
set_option maxHeartbeats 0 in
theorem PySem.Challenge.cw_piecebounds_k41_whole_rings_turned_holds : PySem.Challenge.rw_piecebounds_k41_whole_rings_turned.Holds := by
  w_on; o_law; k_head; (case hw => w_witness2)
  k_fill
  refine K.walk (l := PySem.Challenge.rw_piecebounds_k41_whole_rings_turned) rfl rfl (fun w h Y => PySem.W.kIn_of Y) ?F
  case F =>
    intro w mg fa h KX G hmg
    refine' K.all_mk KX G hmg ?a0 ?l0 ?c0 ?k0 ?a1 ?l1 ?c1 ?k1 ?a2 ?l2 ?c2 ?k2 ?a3 ?l3 ?c3 ?k3 ?a4 ?l4 ?c4 ?k4 ?a5 ?l5 ?c5 ?k5 ?a6 ?l6 ?c6 ?k6 ?a7 ?l7 ?c7 ?k7 ?a8 ?l8 ?c8 ?k8 ?a9 ?l9 ?c9 ?k9 ?a10 ?l10 ?c10 ?k10 ?a11 ?l11 ?c11 ?k11 ?a12 ?l12 ?c12 ?k12 ?a13 ?l13 ?c13 ?k13 ?a14 ?l14 ?c14 ?k14 ?a15 ?l15 ?c15 ?k15 ?a16 ?l16 ?c16 ?k16 ?a17 ?l17 ?c17 ?k17 ?a18 ?l18 ?c18 ?k18 ?a19 ?l19 ?c19 ?k19 ?z0 ?z1 ?z2 ?z3 ?z4 ?z5 ?z6 ?z7 ?z8 ?z9 ?z10 ?z11 ?z12 ?z13 ?z14 ?z15 ?z16 ?z17
    (case a0 => k_is); (case l0 => k_is); (case c0 => k_is); (case k0 => k_is); (case a1 => k_is); (case l1 => k_is); (case c1 => k_is); (case k1 => k_is); (case a2 => k_is); (case l2 => k_is); (case c2 => k_is); (case k2 => k_is); (case a3 => k_is); (case l3 => k_is); (case c3 => k_is); (case k3 => k_is); (case a4 => k_is); (case l4 => k_is); (case c4 => k_is); (case k4 => k_is); (case a5 => k_is); (case l5 => k_is); (case c5 => k_is); (case k5 => k_is); (case a6 => k_is); (case l6 => k_is); (case c6 => k_is); (case k6 => k_is); (case a7 => k_is); (case l7 => k_is); (case c7 => k_is); (case k7 => k_is); (case a8 => k_is); (case l8 => k_is); (case c8 => k_is); (case k8 => k_is); (case a9 => k_is); (case l9 => k_is); (case c9 => k_is); (case k9 => k_is); (case a10 => k_is); (case l10 => k_is); (case c10 => k_is); (case k10 => k_is); (case a11 => k_is); (case l11 => k_is); (case c11 => k_is); (case k11 => k_is); (case a12 => k_is); (case l12 => k_is); (case c12 => k_is); (case k12 => k_is); (case a13 => k_is); (case l13 => k_is); (case c13 => k_is); (case k13 => k_is); (case a14 => k_is); (case l14 => k_is); (case c14 => k_is); (case k14 => k_is); (case a15 => k_is); (case l15 => k_is); (case c15 => k_is); (case k15 => k_is); (case a16 => k_is); (case l16 => k_is); (case c16 => k_is); (case k16 => k_is); (case a17 => k_is); (case l17 => k_is); (case c17 => k_is); (case k17 => k_is); (case a18 => k_is); (case l18 => k_is); (case c18 => k_is); (case k18 => k_is); (case a19 => k_is); (case l19 => k_is); (case c19 => k_is); (case k19 => k_is); (case z0 => k_is); (case z1 => k_is); (case z2 => k_is); (case z3 => k_is); (case z4 => k_is); (case z5 => k_is); (case z6 => k_is); (case z7 => k_is); (case z8 => k_is); (case z9 => k_is); (case z10 => k_is); (case z11 => k_is); (case z12 => k_is); (case z13 => k_is); (case z14 => k_is); (case z15 => k_is); (case z16 => k_is); (case z17 => k_is)

